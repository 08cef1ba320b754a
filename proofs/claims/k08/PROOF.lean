import PyProof.Rows.All
import Wide.All
import OpenK.AllK
import Wide.FinOn
import Lean
import PyProof.EqAt
import PyProof.EqKinds
import PyProof.TupleCall
import PySem.Challenge.RW_meldhouse_k08_whole_out_and_helpers
local macro_rules | `(0x1) => `(by lia)
local macro_rules | `(0x2) => `(by decide +kernel)
local macro_rules | `(0x3) => `(by decide)
local macro_rules | `(0x4) => `(by simp)
abbrev JY := @List.mem_cons_of_mem
abbrev JZ := @List.mem_cons_self
abbrev J0 := @PySem.Heap.get?_push_of_some
abbrev J2 := @List.mem_append_right
abbrev J3 := @List.mem_append_left
abbrev J5 := @Nat.le_refl
abbrev J6 := @PySem.wpAny_bind
abbrev J7 := @PySem.wpAny_pure
abbrev J8 := @PySem.Heap.lt_size
abbrev Kd := PySem.W.Frag
set_option Elab.async false
set_option bootstrap.genMatcherCode false
set_option linter.all false
set_option maxRecDepth 100000
namespace L2
open PySem PySem.Spec PyProof.Rows
noncomputable abbrev ue:=Sum Int Str
noncomputable def EL:ue->Value->Bool
 |.inl k,v=>Value.isInt k v
 |.inr x,v=>Value.isStrOf x v
noncomputable def Jg (w:World):ue->Int
 |.inl k=>hashInt k
 |.inr x=>hashStr w x
theorem cy:∀{k:ue} {v:Value},EL k v=true->(∃i t,k=Sum.inl i/\v=Value.int i t)\/(∃x t,k=Sum.inr x/\v=Value.str x t)
 |.inl i,v,h=>by
  obtain ⟨t,e⟩:=Value.isInt_shape (k:=i) (v:=v) h
  exact .inl ⟨i,t,rfl,e⟩
 |.inr x,v,h=>by
  obtain ⟨t,e⟩:=Value.isStrOf_shape (x:=x) (v:=v) h
  exact .inr ⟨x,t,rfl,e⟩
theorem FO (a b:Int):decide ((Sum.inl a:ue)=Sum.inl b)=(a==b):=by
 by_cases e:a=b
 ·subst e; simp
 ·have h:¬(Sum.inl a:ue)=Sum.inl b:=fun q=>e (Sum.inl.inj q)
  rw [decide_eq_false h]
  exact (beq_eq_false_iff_ne.mpr e).symm
theorem Gp (a b:Str):decide ((Sum.inr a:ue)=Sum.inr b)=decide (a=b):=by
 by_cases e:a=b
 ·subst e; simp
 ·have h:¬(Sum.inr a:ue)=Sum.inr b:=fun q=>e (Sum.inr.inj q)
  rw [decide_eq_false h,decide_eq_false e]
theorem GC (a:Int) (b:Str):decide ((Sum.inl a:ue)=Sum.inr b)=false:=decide_eq_false (fun q=>nomatch q)
theorem GH (a:Str) (b:Int):decide ((Sum.inr a:ue)=Sum.inl b)=false:=decide_eq_false (fun q=>nomatch q)
noncomputable def tf (prog:Program) (w:World):PySem.KeyKind prog w ue where
 is:=EL
 hash:=Jg w
 inj:=fun v a b ha hb=>by
  rcases cy ha with ⟨i,t,rfl,rfl⟩|⟨x,t,rfl,rfl⟩
  ·rcases cy hb with ⟨j,u,rfl,e⟩|⟨y,u,rfl,e⟩
   ·injection e with e1 _; rw [e1]
   ·exact nomatch e
  ·rcases cy hb with ⟨j,u,rfl,e⟩|⟨y,u,rfl,e⟩
   ·exact nomatch e
   ·injection e with e1 _; rw [e1]
 byValue:=fun k v h=>by
  rcases cy h with ⟨i,t,rfl,rfl⟩|⟨x,t,rfl,rfl⟩ <;> rfl
 pyHash:=fun hv h=>by
  rcases cy hv with ⟨i,t,rfl,rfl⟩|⟨x,t,rfl,rfl⟩
  ·exact wpAny_pyHash_int h
  ·exact wpAny_pyHash_str h
 eqBool:=fun hu hv h=>by
  rcases cy hu with ⟨i,t,rfl,rfl⟩|⟨x,t,rfl,rfl⟩
  ·rcases cy hv with ⟨j,u,rfl,rfl⟩|⟨y,u,rfl,rfl⟩
   ·rw [FO] at h; exact wpAny_eqBool_int h
   ·rw [GC] at h; exact SeqAt.EqAt.int_str i t y u _ _ _ _ h
  ·rcases cy hv with ⟨j,u,rfl,rfl⟩|⟨y,u,rfl,rfl⟩
   ·rw [GH] at h; exact SeqAt.EqAt.str_int x t j u _ _ _ _ h
   ·rw [Gp] at h; exact wpAny_eqBool_str h
 «strs»:=fun k x t v h=>by
  rcases cy h with ⟨i,u,rfl,e⟩|⟨y,u,rfl,e⟩
  ·exact nomatch e
  ·injection e with e1 _
   subst e1
   cases v <;> rfl
inductive V where
 |non|bl (b:Bool)|int (i:Int)|str (x:Str)|byt (b:Array UInt8)|flt (b:UInt64)|ref (a:Addr)|ty (n:String)
 deriving DecidableEq
noncomputable def br:V->Value->Prop
 |.non,u=>u=Value.none
 |.bl b,u=>u=Value.bool b
 |.int i,u=>∃t,u=Value.int i t
 |.str x,u=>∃t,u=Value.str x t
 |.byt b,u=>∃t,u=Value.bytes b t
 |.flt b,u=>∃t,u=Value.float b t
 |.ref a,u=>u=Value.ref a
 |.ty n,u=>u=Value.type n
noncomputable abbrev aQ:List V->List Value->Prop:=Paired br
theorem aQ.length {xs:List V} {us:List Value} (r:aQ xs us):xs.length=us.length:=Paired.length r
theorem aQ.get:∀{xs:List V} {us:List Value} {i:Nat} {x:V},aQ xs us->xs[i]?=some x->∃u,us[i]?=some u/\br x u
 |_,_,_,_,.nil,e=>by simp at e
 |_,_,0,_,.cons r _,e=>by simp at e; subst e; exact ⟨_,rfl,r⟩
 |_,_,i+1,x,.cons _ t,e=>by
  obtain ⟨u,h1,h2⟩:=aQ.get (i:=i) (x:=x) t (by simpa using e)
  exact ⟨u,by simpa using h1,h2⟩
theorem aQ.set {x:V} {u:Value} (r:br x u):∀{xs:List V} {us:List Value} (i:Nat),aQ xs us->aQ (xs.set i x) (us.set i u)
 |_,_,_,.nil=>.nil
 |_,_,0,.cons _ t=>.cons r t
 |_,_,i+1,.cons q t=>.cons q (aQ.set r i t)
theorem aQ.append:∀{xs ys:List V} {us ws:List Value},aQ xs us->aQ ys ws->aQ (xs++ys) (us++ws)
 |_,_,_,_,.nil,s=>s
 |_,_,_,_,.cons r t,s=>.cons r (aQ.append t s)
theorem aQ.take:∀{xs:List V} {us:List Value} (n:Nat),aQ xs us->aQ (xs.take n) (us.take n)
 |_,_,0,_=>.nil
 |_,_,_+1,.nil=>.nil
 |_,_,n+1,.cons r t=>.cons r (aQ.take n t)
theorem aQ.drop:∀{xs:List V} {us:List Value} (n:Nat),aQ xs us->aQ (xs.drop n) (us.drop n)
 |_,_,0,r=>r
 |_,_,_+1,.nil=>.nil
 |_,_,n+1,.cons _ t=>aQ.drop n t
noncomputable def qK:Option V->Option Value->Prop
 |some v,some u=>br v u
 |none,none=>True
 |_,_=>False
noncomputable def KV {κ:Type}:List (κ×V)->List (κ×Value)->Prop:=Paired fun (p:κ×V) (q:κ×Value)=>p.1=q.1/\br p.2 q.2
noncomputable def kV:ue->V
 |.inl i=>.int i
 |.inr x=>.str x
inductive HO where
 |lst (xs:List V)
 |tup (xs:List V)
 |dK (kvs:List (ue×V))|dT (kvs:List (List ue×V))
 |set (S:Int->Bool) (n:Nat)
 |ins (C dx:Addr) (fs:List (Str×V))
 |own (x:Addr)
 |xd (fs:List (Str×V))
 |met (f x:Addr)
 |rng (lo hi:Int)
 |frz (o:Obj) (u:HO)
 |tbl (ps:Array Value)
 |ext (φ:(Addr->List V->Prop)->Heap->Prop)
noncomputable abbrev Hp:=Addr->Option HO
noncomputable def upd (H:Hp) (a:Addr) (o:HO):Hp:=fun b=>if b=a then some o else H b
theorem aN {H:Hp} {a:Addr} {o:HO}:upd H a o a=some o:=by unfold upd; rw [if_pos rfl]
theorem aA {H:Hp} {a b:Addr} {o:HO} (h:b≠a):upd H a o b=H b:=by unfold upd; rw [if_neg h]
theorem Ef {H:Hp} {a:Addr} {o u:HO}:upd (upd H a o) a u=upd H a u:=by
 funext b; unfold upd; split <;> rfl
theorem ES {H:Hp} {a b:Addr} {o u:HO} (h:H a=some o) (h':H b=some u) (d:o≠u):a≠b:=by
 intro e; subst e; rw [h] at h'; exact d (Option.some.inj h')
theorem bF {H:Hp} {a b:Addr} {o:HO} (h:H a=some o) (h':H b=none):a≠b:=by
 intro e; subst e; rw [h] at h'; cases h'
section
variable (P:Program) (w:World)
noncomputable def cu (H:Hp) (h:Heap) (a:Addr):HO->Prop
 |.lst xs=>xs.length<=sizeLine/\∃(its:List Value) (n:Nat),aQ xs its/\h.get? a=some { cls:=.type "list",data:=.seq its.toArray n }
 |.tup xs=>xs.length<=sizeLine/\∃its:List Value,aQ xs its/\IsTup h a its.toArray
 |.dK kvs=>kvs.length<=sizeLine/\(a==sysModules)=false/\∃vs,KV kvs vs/\h.DictOf (tf P w) a vs
 |.dT kvs=>kvs.length<=sizeLine/\(a==sysModules)=false/\∃xs:List (List ue×Addr×Value),
   Paired (fun (p:List ue×V) (q:List ue×Addr×Value)=>p.1=q.1/\H q.2.1=some (.tup (p.1.map kV))/\br p.2 q.2.2) kvs xs /\
   ∃o es ep,h.get? a=some o/\o.ExactDict/\o.data=.dict es ep/\es.toList=xs.map (entryOfKey (tupleKind (tf P w)))/\(xs.map (·.1)).Nodup
 |.set S n=>h.SetOf (intKind P w) a S n
 |.ins C dx fs=>H dx=some (.own a)/\fs.length<=1000/\dx≠a/\h.get? a=some (PySem.W.instObj C dx) /\
   ∃mA,h.Ns1 dx mA/\(∀f,qK (fs.lookup f) (mA f))/\PySem.Within mA (fs.map (·.1))
 |.own _=>∃o,h.get? a=some o
 |.xd fs=>∃mA,h.Ns1 a mA/\∀f,qK (fs.lookup f) (mA f)
 |.rng lo hi=>∃t u v,h.get? a=some { cls:=.type "range",data:=.fields #[.int lo t,.int hi u,.int 1 v] }
 |.frz o u=>h.get? a=some o/\cu H h a u
 |.tbl ps=>h.get? a=some { cls:=.none,data:=.fields ps }
 |.met f x=>h.get? a=some (PySem.W.methodObj (.ref f) (.ref x))
 |.ext φ=>φ (fun b xs=>H b=some (.tup xs)) h/\(∃o,h.get? a=some o)/\∀(T1 T2:Addr->List V->Prop) (h1 h2:Heap),φ T1 h1->(∀b xs,T1 b xs->T2 b xs)->(∀o,h1.get? a=some o->h2.get? a=some o)->φ T2 h2
noncomputable def kx (H:Hp) (h:Heap):Prop:=∀a o,H a=some o->cu P w H h a o
end
section
variable {P:Program} {w:World} {H H':Hp} {h h':Heap} {a:Addr} {o:HO}
theorem cu.lt (x:cu P w H h a o):a<h.objs.size:=by
 cases o with
 |lst xs=>obtain ⟨_,_,_,_,e⟩:=x; exact J8 e
 |tup xs=>obtain ⟨_,_,_,p⟩:=x; exact p.lt
 |dK kvs=>obtain ⟨_,_,_,_,o,_,_,e,_⟩:=x; exact J8 e
 |dT kvs=>obtain ⟨_,_,_,_,o,_,_,e,_⟩:=x; exact J8 e
 |set S n=>obtain ⟨o,_,_,_,e,_⟩:=x; exact J8 e
 |ins C dx fs=>obtain ⟨_,_,_,e,_⟩:=x; exact J8 e
 |own y=>obtain ⟨_,e⟩:=x; exact J8 e
 |xd fs=>obtain ⟨_,⟨_,_,_,e,_⟩,_⟩:=x; exact J8 e
 |rng lo hi=>obtain ⟨_,_,_,e⟩:=x; exact J8 e
 |frz ob u=>obtain ⟨e,_⟩:=x; exact J8 e
 |tbl ps=>exact J8 (show h.get? a=some _ from x)
 |met f y=>exact J8 (show h.get? a=some _ from x)
 |ext φ=>obtain ⟨_,⟨_,e⟩,_⟩:=x; exact J8 e
theorem Paired.mapP {α β:Type} {F G:α->β->Prop}:∀{l₁:List α} {l₂:List β},Paired F l₁ l₂->(∀a b,F a b->G a b)->Paired G l₁ l₂
 |_,_,.nil,_=>.nil
 |_,_,.cons r t,f=>.cons (f _ _ r) (Paired.mapP t f)
theorem cu.stay (x:cu P w H h a o) (k:∀b u,(b=a\/H b=some (.own a))->h.get? b=some u->h'.get? b=some u)
  (ho:∀b,H b=some (.own a)->H' b=some (.own a)) (ht:∀b xs,H b=some (.tup xs)->H' b=some (.tup xs)):cu P w H' h' a o:=by
 induction o with
 |lst xs=>obtain ⟨z,its,n,r,e⟩:=x; exact ⟨z,its,n,r,k _ _ (.inl rfl) e⟩
 |tup xs=>obtain ⟨z,its,r,ob,e,c⟩:=x; exact ⟨z,its,r,ob,k _ _ (.inl rfl) e,c⟩
 |dK kvs=>obtain ⟨z,y,vs,r,ob,es,ep,e,c⟩:=x; exact ⟨z,y,vs,r,ob,es,ep,k _ _ (.inl rfl) e,c⟩
 |dT kvs=>
  obtain ⟨z,y,xs,r,ob,es,ep,e,c⟩:=x
  exact ⟨z,y,xs,Paired.mapP r fun p q z=>⟨z.1,ht _ _ z.2.1,z.2.2⟩,ob,es,ep,k _ _ (.inl rfl) e,c⟩
 |set S n=>obtain ⟨ob,es,ep,t,e,c⟩:=x; exact ⟨ob,es,ep,t,k _ _ (.inl rfl) e,c⟩
 |ins C dx fs=>
  obtain ⟨d,z,ne,e,mA,⟨od,es,ep,e2,c⟩,r⟩:=x
  exact ⟨ho _ d,z,ne,k _ _ (.inl rfl) e,mA,⟨od,es,ep,k _ _ (.inr d) e2,c⟩,r⟩
 |own y=>obtain ⟨ob,e⟩:=x; exact ⟨ob,k _ _ (.inl rfl) e⟩
 |xd fs=>obtain ⟨mA,⟨od,es,ep,e,c⟩,r⟩:=x; exact ⟨mA,⟨od,es,ep,k _ _ (.inl rfl) e,c⟩,r⟩
 |rng lo hi=>obtain ⟨t,u,v,e⟩:=x; exact ⟨t,u,v,k _ _ (.inl rfl) e⟩
 |frz ob u ih=>obtain ⟨e,q⟩:=x; exact ⟨k _ _ (.inl rfl) e,ih q⟩
 |tbl ps=>
  have e:h.get? a=some { cls:=.none,data:=.fields ps }:=x
  show h'.get? a=some { cls:=.none,data:=.fields ps }
  exact k a _ (.inl rfl) e
 |met f y=>
  have e:h.get? a=some (PySem.W.methodObj (.ref f) (.ref y)):=x
  show h'.get? a=some (PySem.W.methodObj (.ref f) (.ref y))
  exact k a _ (.inl rfl) e
 |ext φ=>obtain ⟨p,⟨o,e⟩,st⟩:=x; exact ⟨st _ _ _ _ p (fun b xs q=>ht b xs q) fun o q=>k _ _ (.inl rfl) q,⟨o,k _ _ (.inl rfl) e⟩,st⟩
theorem kx.lt (x:kx P w H h) (e:H a=some o):a<h.objs.size:=(x a o e).lt
theorem kx.fresh (x:kx P w H h) (e:h.objs.size<=a):H a=none:=by
 cases q:H a with
 |none=>rfl
 |some u=>exact absurd (Nat.lt_of_lt_of_le (x.lt q) e) (Nat.lt_irrefl _)
theorem kx.kept (x:kx P w H h) (k:∀b u,h.get? b=some u->h'.get? b=some u):kx P w H h':=fun a o e=>
 (x a o e).stay (fun b u _ q=>k b u q) (fun _ q=>q) fun _ _ q=>q
theorem kx.laid (x:kx P w H h) (k:∀b u,h.get? b=some u->h'.get? b=some u) (hp:h.objs.size<=a) (new:cu P w (upd H a o) h' a o):kx P w (upd H a o) h':=fun b u e=>by
 have hn:=x.fresh hp
 by_cases hb:b=a
 ·subst hb; rw [aN] at e; cases e; exact new
 ·rw [aA hb] at e
  exact (x b u e).stay (fun c v _ q=>k c v q) (fun c q=>by rw [aA (bF q hn)]; exact q) fun c xs q=>by rw [aA (bF q hn)]; exact q
end
noncomputable def Rd (H:Hp) (a:Addr) (u:HO):Prop:=H a=some u\/∃o,H a=some (.frz o u)
theorem Rd.ok {P:Program} {w:World} {H:Hp} {h:Heap} {a:Addr} {u:HO} (r:Rd H a u) (x:kx P w H h):cu P w H h a u:=by
 rcases r with r|⟨o,r⟩
 ·exact x a u r
 ·obtain ⟨_,q⟩:=x a _ r
  exact q
noncomputable def Io:Option HO->Prop
 |some (.lst _)=>True
 |some (.dK _)=>True
 |some (.dT _)=>True
 |some (.set _ _)=>True
 |some (.ins _ _ _)=>True
 |some (.ext _)=>True
 |_=>False
section
variable {P:Program} {w:World} {H:Hp} {h h':Heap} {x e:Addr} {o':HO}
theorem kx.write (ok:kx P w H h) (mu:Io (H x)) (he:e=x\/H e=some (.own x)) (k:∀b u,b≠e->h.get? b=some u->h'.get? b=some u) (heo:∃u,h'.get? e=some u)
  (new:cu P w (upd H x o') h' x o'):kx P w (upd H x o') h':=fun b u q=>by
 have nown:∀c y,H c=some (.own y)->c≠x:=fun c y r z=>by subst z; rw [r] at mu; exact mu
 have ntup:∀c xs,H c=some (.tup xs)->c≠x:=fun c xs r z=>by subst z; rw [r] at mu; exact mu
 by_cases hb:b=x
 ·subst hb; rw [aN] at q; cases q; exact new
 ·rw [aA hb] at q
  by_cases hbe:b=e
  ·have q':H b=some (.own x):=by
    rcases he with z|z
    ·exact absurd (hbe.trans z) hb
    ·rw [hbe]; exact z
   rw [q] at q'; cases q'
   obtain ⟨v,hv⟩:=heo
   exact ⟨v,by rw [hbe]; exact hv⟩
  ·refine (ok b u q).stay (fun c v hc r=>k c v ?_ r) (fun c r=>by rw [aA (nown c b r)]; exact r) fun c xs r=>by rw [aA (ntup c xs r)]; exact r
   rcases hc with rfl|hc
   ·exact hbe
   ·rintro rfl
    rcases he with z|z
    ·exact nown c b hc z
    ·rw [hc] at z; cases z; exact hb rfl
end
structure Un (fs ex:List Addr) (H H':Hp) (h h':Heap):Prop where
 keep:∀b o,h.get? b=some o->H b=none->b∉fs->b∉ex->h'.get? b=some o
 slot:∀b o,h.get? b=some o->H b=none->b∈fs->b∉ex->∃sl,h'.get? b=some { o with slots:=sl }
 free:∀b o,h.get? b=some o->H b=none->b∉ex->H' b=none
 there:∀b o,h.get? b=some o->b∉ex->∃o',h'.get? b=some o'
 tups:∀b xs,H b=some (.tup xs)->H' b=some (.tup xs)
 frzs:∀b o u,H b=some (.frz o u)->H' b=some (.frz o u)
 tbls:∀b ps,H b=some (.tbl ps)->∃more,H' b=some (.tbl (ps++more))
section
variable {fs fs' ex ex':List Addr} {H H1 H2:Hp} {h h1 h2 h':Heap} {a x e:Addr} {o:HO}
theorem Un.any (u:Un fs ex H H1 h h1) {b:Addr} {ob:Obj} (q:h.get? b=some ob) (n:H b=none) (hx:b∉ex):∃sl,h1.get? b=some { ob with slots:=sl }:=by
 by_cases hb:b∈fs
 ·exact u.slot b ob q n hb hx
 ·exact ⟨ob.slots,u.keep b ob q n hb hx⟩
theorem Un.kept (k:∀b u,h.get? b=some u->h'.get? b=some u):Un fs ex H H h h':=
 ⟨fun b ob q _ _ _=>k b ob q,fun b ob q _ _ _=>⟨ob.slots,k b ob q⟩,fun _ _ _ n _=>n,fun b ob q _=>⟨ob,k b ob q⟩,fun _ _ q=>q,fun _ _ _ q=>q,fun _ ps q=>⟨#[],by rw [q]; simp⟩⟩
theorem Un.refl:Un fs ex H H h h:=Un.kept fun _ _ q=>q
theorem Un.laid (k:∀b u,h.get? b=some u->h'.get? b=some u) (hp:h.objs.size<=a) (hn:H a=none):Un fs ex H (upd H a o) h h' where
 keep:=fun b u q _ _ _=>k b u q
 slot:=fun b u q _ _ _=>⟨u.slots,k b u q⟩
 free:=fun b u q n _=>by rw [aA (Nat.ne_of_lt (Nat.lt_of_lt_of_le (J8 q) hp))]; exact n
 there:=fun b u q _=>⟨u,k b u q⟩
 tups:=fun b xs q=>by rw [aA (bF q hn)]; exact q
 frzs:=fun b u xs q=>by rw [aA (bF q hn)]; exact q
 tbls:=fun b ps q=>⟨#[],by rw [aA (bF q hn),q]; simp⟩
theorem Un.write (mu:Io (H x)) (he:e=x\/H e=some (.own x)) (k:∀b u,b≠e->h.get? b=some u->h'.get? b=some u) (heo:∃u,h'.get? e=some u):Un fs ex H (upd H x o) h h':=by
 have hx:∀b,H b=none->b≠x:=fun b n z=>by subst z; rw [n] at mu; exact mu
 have hb:∀b,H b=none->b≠e:=fun b n z=>by
  subst z
  rcases he with r|r
  ·exact hx b n r
  ·rw [n] at r; cases r
 have hm:∀b u,H b=some u->¬Io (some u)->b≠x:=fun b u q nm z=>by subst z; rw [q] at mu; exact nm mu
 refine ⟨fun b u q n _ _=>k b u (hb b n) q,fun b u q n _ _=>⟨u.slots,k b u (hb b n) q⟩,fun b u q n _=>by rw [aA (hx b n)]; exact n,fun b u q _=>?_,
  fun b xs q=>by rw [aA (hm b _ q fun z=>z)]; exact q,fun b u xs q=>by rw [aA (hm b _ q fun z=>z)]; exact q,fun b ps q=>⟨#[],by rw [aA (hm b _ q fun z=>z),q]; simp⟩⟩
 by_cases hbe:b=e
 ·subst hbe; exact heo
 ·exact ⟨u,k b u hbe q⟩
end
noncomputable def trk (h:Heap) (H:Hp):List Addr:=(List.range h.objs.size).filter fun a=>(H a).isSome
noncomputable def sR (h:Heap) (H:Hp):Heap:=PySem.W.hideAll h (trk h H)
theorem yM (h:Heap) (H:Hp):(sR h H).objs.size=h.objs.size:=PySem.W.hideAll_size _ _
theorem BS {h:Heap} {H:Hp} {b:Addr} {o:Obj} (e:h.get? b=some o) (n:H b=none):(sR h H).get? b=some o:=
 PySem.W.hideAll_get _ e fun hm=>by
  have q:(H b).isSome=true:=(List.mem_filter.mp hm).2
  rw [n] at q; simp at q
theorem DB {h:Heap} {H:Hp} {b:Addr} {o:Obj} (e:(sR h H).get? b=some o):h.get? b=some o/\H b=none:=by
 have e':h.get? b=some o:=PySem.W.of_hideAll (trk h H) e
 refine ⟨e',?_⟩
 cases q:H b with
 |none=>rfl
 |some x=>
  have hm:b∈trk h H:=List.mem_filter.mpr ⟨List.mem_range.mpr (J8 e'),by simp [q]⟩
  have z:(sR h H).get? b=none:=PySem.W.hideAll_none (trk h H) hm
  rw [z] at e; cases e
noncomputable def Ep (g h:Heap) (L:Addr):List (Addr×Obj):=(List.range h.objs.size).filterMap fun a=>if a=L\/(g.get? a).isSome=true then none else (h.get? a).map fun o=>(a,o)
noncomputable def eL (g h:Heap) (L d:Addr):List (Addr×Obj):=(Ep g h L).filter fun p=>decide (p.1≠d)
structure Mod (K:Kd) (mg:Str->Option Value) (base:Heap):Prop where
 kin:K.In base
 glob:base.Ns mainGlobals mg
 blt:∃mb,base.Ns builtinsNs mb/\∀x:Str,x ≠ "__name__" -> mb x=bootBuiltins x
 nolimit:base.NoLimit
structure Cx where
 prog:Program
 w:World
 K:Kd
 mg:Str->Option Value
 base:Heap
 A:Around
 N:List Str
 s₀:Shared
 H₀:Hp
 env:Env
 outer:List Env
 stack:List Env
 ex:List Addr
 fn:Str->Bool
 calm:Bool
 pn:List (Addr×Obj)
 xe:Value->Shared->Prop
noncomputable def ir (l:List Env):List Addr:=l.filterMap (·.frame)
noncomputable abbrev Cx.fs (X:Cx):List Addr:=ir X.outer
noncomputable def Ir (sc:Scope) (x:Str):Prop:=sc.names.lookup x=some .local\/sc.names.lookup x=some .cell\/sc.names.lookup x=some .free
noncomputable def Hn (sc:Scope) (x:Str):Prop:=sc.names.lookup x=some .local\/sc.names.lookup x=some .cell
noncomputable def IW (env:Env) (h:Heap) (m:Str->Option Value) (x:Str) (u:Value):Prop:=
 (env.kindOf x=some .local/\m x=some u)\/((env.kindOf x=some .cell\/env.kindOf x=some .free)/\∃c,env.cells.lookup x=some c/\h.IsCell c (some u))
structure Cx.Ok (X:Cx):Prop where
 mod:Mod X.K X.mg X.base
 kind:X.env.scope.kind=.function
 glob:X.env.globals=mainGlobals
 blt:X.env.builtins=builtinsNs
 above:X.s₀.heap.objs.size<=X.env.locals
 inj:∀x y c,X.env.cells.lookup x=some c->X.env.cells.lookup y=some c->x=y
 has:∀x,(X.env.kindOf x=some .cell\/X.env.kindOf x=some .free)->∃c,X.env.cells.lookup x=some c
 cab:∀x c,X.fn x=true->X.env.cells.lookup x=some c->X.s₀.heap.objs.size<=c
 hd:X.calm=true->X.A.handled=none
 frames:X.A.frames=some X.stack
 stk:X.stack=X.outer\/(X.stack=X.env::X.outer/\X.env.frame=some X.env.locals)
 exf:∀b∈X.ex,b≠X.env.locals/\∀x c,X.env.cells.lookup x=some c->c≠b
 bs:∀b o,X.base.get? b=some o->X.s₀.heap.get? b=some o/\X.H₀ b=none
 bsz:X.base.objs.size<=X.s₀.heap.objs.size
 noex:∀b o,X.base.get? b=some o->b∉X.ex
 exfs:∀b∈X.ex,b∉X.fs
 funs:X.s₀.heap.FunFrames X.base X.outer
 frf:∀b∈X.fs,X.H₀ b=none
structure Inv (X:Cx) (pins:List (Addr×Obj)) (σ:List (Option V)) (H:Hp) (s:Shared):Prop where
 ok:X.Ok
 os:s.os=X.s₀.os
 bare:AllBare s.gens
 base:Un X.fs X.ex X.H₀ H X.s₀.heap s.heap
 loc:∃m,s.heap.Ns X.env.locals m/\∀(i:Nat) (x:Str) (v:V),X.N[i]?=some x->σ[i]?=some (some v)->Ir X.env.scope x->∃u,br v u/\IW X.env s.heap m x u
 cell:∀x c,X.env.cells.lookup x=some c->∃v,s.heap.IsCell c v
 free:H X.env.locals=none
 freeC:∀x c,X.env.cells.lookup x=some c->H c=none
 pin:∀p∈X.pn++pins,s.heap.get? p.1=some p.2/\H p.1=none/\p.1≠X.env.locals/\p.1∉X.fs/\∀v,p.2.data≠.cell v
 hok:kx X.prog X.w H s.heap
 len:σ.length=X.N.length
section
variable {X:Cx} {pins:List (Addr×Obj)} {σ:List (Option V)} {H H':Hp} {s:Shared} {h':Heap}
theorem Cx.Ok.nofr (ok:X.Ok) {b:Addr} {o:Obj} (e:X.base.get? b=some o):b∉X.fs:=fun hb=>by
 have:=(ok.funs.mem hb).1
 rw [e] at this; cases this
theorem Inv.bs (I:Inv X pins σ H s):∀b o,X.base.get? b=some o->s.heap.get? b=some o/\H b=none:=fun b o e=>
 ⟨I.base.keep b o (I.ok.bs b o e).1 (I.ok.bs b o e).2 (I.ok.nofr e) (I.ok.noex b o e),I.base.free b o (I.ok.bs b o e).1 (I.ok.bs b o e).2 (I.ok.noex b o e)⟩
theorem Inv.bk (I:Inv X pins σ H s):∀b o,X.base.get? b=some o->s.heap.get? b=some o:=fun b o e=>(I.bs b o e).1
theorem Inv.mod (I:Inv X pins σ H s):Mod X.K X.mg X.base:=I.ok.mod
theorem Inv.kIn (I:Inv X pins σ H s):X.K.In s.heap:=I.ok.mod.kin.keeps I.bk
theorem Inv.nolimit (I:Inv X pins σ H s):s.heap.NoLimit:=I.ok.mod.nolimit.keeps I.bk
theorem Inv.fr (I:Inv X pins σ H s):∃m,Fr X.base X.env.locals s.heap m:=
 let ⟨m,hn,_⟩:=I.loc
 ⟨m,hn,I.bk,Nat.le_trans I.ok.bsz I.ok.above⟩
theorem Inv.lt (I:Inv X pins σ H s):X.env.locals<s.heap.objs.size:=let ⟨_,hn,_⟩:=I.loc; hn.lt
theorem Inv.sz (I:Inv X pins σ H s):X.s₀.heap.objs.size<=s.heap.objs.size:=Nat.le_trans I.ok.above (Nat.le_of_lt I.lt)
theorem Inv.nofs (I:Inv X pins σ H s) {a:Addr} (h:s.heap.objs.size<=a):a∉X.fs:=fun hb=>by
 obtain ⟨_,o,ho,_⟩:=I.ok.funs.mem hb
 exact absurd (Nat.lt_of_lt_of_le (J8 ho) (Nat.le_trans I.sz h)) (Nat.lt_irrefl _)
theorem Inv.cne (I:Inv X pins σ H s):∀x c,X.env.cells.lookup x=some c->c≠X.env.locals:=fun x c e z=>by
 obtain ⟨v,o,ho,hd⟩:=I.cell x c e
 obtain ⟨m,⟨o',es,ep,ho',hd',_⟩,_⟩:=I.loc
 rw [z,ho'] at ho; cases ho; rw [hd'] at hd; cases hd
theorem Inv.funs (I:Inv X pins σ H s):s.heap.FunFrames X.base X.outer:=by
 have all:∀(l:List Env),(∀b∈ir l,b∈X.fs)->X.s₀.heap.FunFrames X.base l->s.heap.FunFrames X.base l:=by
  intro l
  induction l with
  |nil=>intro _ _; trivial
  |cons env r ih=>
   intro hs hl
   obtain ⟨hk,⟨L,o,hf,hn,ho,hd⟩,hr⟩:=hl
   have hL:L∈X.fs:=hs L (by unfold ir; rw [List.filterMap_cons,hf]; exact JZ)
   obtain ⟨sl,e⟩:=I.base.slot L o ho (I.ok.frf L hL) hL fun z=>I.ok.exfs L z hL
   exact ⟨hk,⟨L,_,hf,hn,e,hd⟩,ih (fun b hb=>hs b (by unfold ir; rw [List.filterMap_cons,hf]; exact JY _ hb)) hr⟩
 exact all X.outer (fun _ hb=>hb) I.ok.funs
theorem Inv.stack (I:Inv X pins σ H s):s.heap.FunFrames X.base X.stack:=by
 rcases I.ok.stk with e|⟨e,hf⟩
 ·rw [e]; exact I.funs
 ·rw [e]
  obtain ⟨m,hn,_⟩:=I.loc
  refine .cons (by rw [I.ok.kind]; decide) hf hn ?_ I.funs
  exact Heap.get?_none_of_le (Nat.le_trans I.ok.bsz I.ok.above)
theorem Inv.stkSub (I:Inv X pins σ H s):∀b∈ir X.stack,b∈X.env.locals::X.fs:=fun b hb=>by
 rcases I.ok.stk with e|⟨e,hf⟩
 ·rw [e] at hb; exact JY _ hb
 ·rw [e] at hb
  unfold ir at hb
  rw [List.filterMap_cons,hf] at hb
  exact hb
theorem Inv.stkFree (I:Inv X pins σ H s):∀b∈ir X.stack,H b=none:=fun b hb=>by
 rcases List.mem_cons.mp (I.stkSub b hb) with e|hb
 ·rw [e]; exact I.free
 ·obtain ⟨_,o,ho,_⟩:=I.ok.funs.mem hb
  exact I.base.free b o ho (I.ok.frf b hb) fun z=>I.ok.exfs b z hb
theorem Inv.step {g':Array GenState} {t':Nat} {d':Drawn} {ch:List Addr} (I:Inv X pins σ H s)
  (hch:∀b∈ch,(b∈X.ex\/X.s₀.heap.objs.size<=b)/\b≠X.env.locals/\(∀x c,X.env.cells.lookup x=some c->c≠b)/\∀p∈X.pn++pins,p.1≠b)
  (keep:∀b o,b≠X.env.locals->b∉X.fs->b∉ch->s.heap.get? b=some o->H b=none->h'.get? b=some o)
  (slot:∀b o,b≠X.env.locals->b∈X.fs->b∉ch->s.heap.get? b=some o->H b=none->∃sl,h'.get? b=some { o with slots:=sl }) (free:∀b o,b∉ch->s.heap.get? b=some o->H b=none->H' b=none)
  (there:∀b o,b∉ch->s.heap.get? b=some o->∃o',h'.get? b=some o')
  (tups:∀b xs,H b=some (.tup xs)->H' b=some (.tup xs)) (frzs:∀b o u,H b=some (.frz o u)->H' b=some (.frz o u)) (tbls:∀b ps,H b=some (.tbl ps)->∃more,H' b=some (.tbl (ps++more)))
  (ns:∀m,s.heap.Ns X.env.locals m->h'.Ns X.env.locals m) (hok:kx X.prog X.w H' h') (hg:AllBare g') :
  Inv X pins σ H' { s with heap:=h',gens:=g',drawn:=d',toks:=t' }:=by
 have neL:∀b o,X.s₀.heap.get? b=some o->b≠X.env.locals:=fun b o e=>Nat.ne_of_lt (Nat.lt_of_lt_of_le (J8 e) I.ok.above)
 have neC:∀b o,X.s₀.heap.get? b=some o->b∉X.ex->b∉ch:=fun b o e hx hb=>by
  rcases (hch b hb).1 with z|z
  ·exact hx z
  ·exact absurd (Nat.lt_of_lt_of_le (J8 e) z) (Nat.lt_irrefl _)
 have cellK:∀x c,X.env.cells.lookup x=some c->∀v,s.heap.IsCell c v->h'.IsCell c v:=fun x c e v ⟨o,ho,hd⟩=>by
  have nch:c∉ch:=fun z=>(hch c z).2.2.1 x c e rfl
  by_cases hc:c∈X.fs
  ·obtain ⟨sl,q⟩:=slot c o (I.cne x c e) hc nch ho (I.freeC x c e)
   exact ⟨_,q,hd⟩
  ·exact ⟨o,keep c o (I.cne x c e) hc nch ho (I.freeC x c e),hd⟩
 refine ⟨I.ok,I.os,hg,⟨fun b o e n hb hx=>?_,fun b o e n hb hx=>?_,fun b o e n hx=>?_,fun b o e hx=>?_,fun b xs e=>tups b xs (I.base.tups b xs e),fun b o xs e=>frzs b o xs (I.base.frzs b o xs e),fun b ps e=>?_⟩,?_,fun x c e=>?_,?_,fun x c e=>?_,fun p hp=>?_,hok,I.len⟩
 ·exact keep b o (neL b o e) hb (neC b o e hx) (I.base.keep b o e n hb hx) (I.base.free b o e n hx)
 ·obtain ⟨sl,e1⟩:=I.base.slot b o e n hb hx
  obtain ⟨sl',e2⟩:=slot b _ (neL b o e) hb (neC b o e hx) e1 (I.base.free b o e n hx)
  exact ⟨sl',e2⟩
 ·obtain ⟨o',e1⟩:=I.base.there b o e hx
  exact free b o' (neC b o e hx) e1 (I.base.free b o e n hx)
 ·obtain ⟨o',e1⟩:=I.base.there b o e hx
  exact there b o' (neC b o e hx) e1
 ·obtain ⟨m1,e1⟩:=I.base.tbls b ps e
  obtain ⟨m2,e2⟩:=tbls b _ e1
  exact ⟨m1++m2,by rw [e2,Array.append_assoc]⟩
 ·obtain ⟨m,hn,hl⟩:=I.loc
  refine ⟨m,ns m hn,fun i x v e1 e2 e3=>?_⟩
  obtain ⟨u,r,l⟩:=hl i x v e1 e2 e3
  refine ⟨u,r,?_⟩
  rcases l with l|⟨k,c,e,z⟩
  ·exact .inl l
  ·exact .inr ⟨k,c,e,cellK x c e _ z⟩
 ·obtain ⟨v,z⟩:=I.cell x c e
  exact ⟨v,cellK x c e v z⟩
 ·obtain ⟨m,⟨o,_,_,ho,_⟩,_⟩:=I.loc
  exact free _ o (fun z=>(hch _ z).2.1 rfl) ho I.free
 ·obtain ⟨v,o,ho,hd⟩:=I.cell x c e
  exact free c o (fun z=>(hch c z).2.2.1 x c e rfl) ho (I.freeC x c e)
 ·obtain ⟨e,n,ne,nf,d⟩:=I.pin p hp
  have nch:p.1∉ch:=fun z=>(hch p.1 z).2.2.2 p hp rfl
  exact ⟨keep p.1 p.2 ne nf nch e n,free p.1 p.2 nch e n,ne,nf,d⟩
theorem Inv.un {t':Nat} (I:Inv X pins σ H s) (u:Un X.fs [] H H' s.heap h') (hok:kx X.prog X.w H' h'):Inv X pins σ H' { s with heap:=h',toks:=t' }:=by
 obtain ⟨m,⟨o,es,ep,ho,r⟩,_⟩:=id I.loc
 obtain ⟨sl,hL⟩:=u.any ho I.free 0x4
 exact I.step (g':=s.gens) (d':=s.drawn) (ch:=[]) (fun _ z=>nomatch z) (fun b o _ hb _ e n=>u.keep b o e n hb 0x4) (fun b o _ hb _ e n=>u.slot b o e n hb 0x4) (fun b o _ e n=>u.free b o e n 0x4) (fun b o _ e=>u.there b o e 0x4) u.tups u.frzs u.tbls (fun m' hm=>by
  obtain ⟨o',es',ep',ho',r'⟩:=hm
  rw [ho] at ho'; cases ho'
  exact ⟨_,es',ep',hL,r'⟩) hok I.bare
theorem Inv.call {g':Array GenState} {t':Nat} {d':Drawn} {ch:List Addr} (I:Inv X pins σ H s) (u:Un (ir X.stack) ch H H' s.heap h') (hok:kx X.prog X.w H' h') (hg:AllBare g')
  (hch:∀b∈ch,(b∈X.ex\/X.s₀.heap.objs.size<=b)/\b≠X.env.locals/\(∀x c,X.env.cells.lookup x=some c->c≠b)/\∀p∈X.pn++pins,p.1≠b) :
  Inv X pins σ H' { s with heap:=h',gens:=g',drawn:=d',toks:=t' }:=by
 obtain ⟨m,⟨o,es,ep,ho,r⟩,_⟩:=id I.loc
 obtain ⟨sl,hL⟩:=u.any ho I.free fun z=>(hch _ z).2.1 rfl
 exact I.step (ch:=ch) hch (fun b o hL hb hc e n=>u.keep b o e n (fun z=>(List.mem_cons.mp (I.stkSub b z)).elim hL hb) hc) (fun b o _ _ hc e n=>u.any e n hc) (fun b o hc e n=>u.free b o e n hc) (fun b o hc e=>u.there b o e hc) u.tups u.frzs u.tbls (fun m' hm=>by
  obtain ⟨o',es',ep',ho',r'⟩:=hm
  rw [ho] at ho'; cases ho'
  exact ⟨_,es',ep',hL,r'⟩) hok hg
theorem Inv.turned {t':Nat} {it:Addr} (I:Inv X pins σ H s) (k:∀b o,b≠it->s.heap.get? b=some o->h'.get? b=some o) (hn:H it=none) (hL:it≠X.env.locals)
  (h1:it∈X.ex\/X.s₀.heap.objs.size<=it) (h2:∀x c,X.env.cells.lookup x=some c->c≠it) (h3:∀p∈X.pn++pins,p.1≠it):Inv X pins σ H { s with heap:=h',toks:=t' }:=by
 have nit:∀b u,H b=some u->b≠it:=fun b u e z=>by rw [z,hn] at e; cases e
 refine I.step (g':=s.gens) (d':=s.drawn) (ch:=[it]) (fun b hb=>?_) (fun b o _ _ hc e _=>k b o (fun z=>hc (by simp [z])) e) (fun b o _ _ hc e _=>⟨o.slots,k b o (fun z=>hc (by simp [z])) e⟩) (fun _ _ _ _ n=>n)
  (fun b o hc e=>⟨o,k b o (fun z=>hc (by simp [z])) e⟩) (fun _ _ e=>e) (fun _ _ _ e=>e) (fun b ps e=>⟨#[],by rw [e]; simp⟩) (fun m hm=>?_) (fun b u e=>?_) I.bare
 ·have e:b=it:=by simpa using hb
  subst e
  exact ⟨h1,hL,h2,h3⟩
 ·obtain ⟨o,es,ep,ho,r⟩:=hm
  exact ⟨o,es,ep,k _ o (Ne.symm hL) ho,r⟩
 ·refine (I.hok b u e).stay (fun c v hc q=>k c v ?_ q) (fun _ q=>q) fun _ _ q=>q
  rcases hc with z|z
  ·rw [z]; exact nit b u e
  ·exact nit c _ z
theorem Inv.tok (I:Inv X pins σ H s) (t:Nat):Inv X pins σ H { s with toks:=t }:=I.un (h':=s.heap) (t':=t) Un.refl I.hok
theorem Inv.kept {t':Nat} (I:Inv X pins σ H s) (k:∀b u,s.heap.get? b=some u->h'.get? b=some u):Inv X pins σ H { s with heap:=h',toks:=t' }:=I.un (Un.kept k) (I.hok.kept k)
theorem Inv.laid {a:Addr} {o:HO} {t':Nat} (I:Inv X pins σ H s) (k:∀b u,s.heap.get? b=some u->h'.get? b=some u) (hp:s.heap.objs.size<=a) (new:cu X.prog X.w (upd H a o) h' a o) :
  Inv X pins σ (upd H a o) { s with heap:=h',toks:=t' }:=I.un (Un.laid k hp (I.hok.fresh hp)) (I.hok.laid k hp new)
theorem Inv.write {x e:Addr} {o:HO} {t':Nat} (I:Inv X pins σ H s) (mu:Io (H x)) (he:e=x\/H e=some (.own x)) (k:∀b u,b≠e->s.heap.get? b=some u->h'.get? b=some u) (heo:∃u,h'.get? e=some u)
  (new:cu X.prog X.w (upd H x o) h' x o):Inv X pins σ (upd H x o) { s with heap:=h',toks:=t' }:=I.un (Un.write mu he k heo) (I.hok.write mu he k heo new)
theorem Inv.pins_of {pins':List (Addr×Obj)} (I:Inv X pins σ H s) (h:∀p∈pins',s.heap.get? p.1=some p.2/\H p.1=none/\p.1≠X.env.locals/\p.1∉X.fs/\∀v,p.2.data≠.cell v):Inv X pins' σ H s:=
 ⟨I.ok,I.os,I.bare,I.base,I.loc,I.cell,I.free,I.freeC,fun p hp=>(List.mem_append.mp hp).elim (fun z=>I.pin p (J3 _ z)) (h p),I.hok,I.len⟩
theorem uB {N:List Str} (hN:N.Nodup) {i j:Nat} {x:Str} (a:N[i]?=some x) (b:N[j]?=some x):i=j:=by
 obtain ⟨h1,e1⟩:=List.getElem?_eq_some_iff.mp a
 obtain ⟨h2,e2⟩:=List.getElem?_eq_some_iff.mp b
 exact (List.getElem_inj hN).mp (e1.trans e2.symm)
theorem qV {M:Model} {A:Around} {E:Value->Shared->Prop} {i:Nat} {x:Str} {v:V} {u:Value} {Q:Unit->Shared->Prop} (I:Inv X pins σ H s) (hN:X.N.Nodup) (hi:X.N[i]?=some x) (hx:Hn X.env.scope x) (r:br v u)
  (h:∀s',Inv X pins (σ.set i (some v)) H s'->(∃a,Heap.SameBut a s.heap s'.heap/\(a=X.env.locals\/X.env.cells.lookup x=some a))->Q () s') (hf:X.fn x=true\/X.env.scope.names.lookup x=some .local:=by first|exact .inl rfl|exact .inr rfl|assumption):wpAny M A (storeName X.env x u) Q E s:=by
 obtain ⟨m,hn,hl⟩:=id I.loc
 have hcls:(X.env.scope.kind==.class||(X.env.scope.kind==.module&&X.env.locals != X.env.globals))=false:=by rw [I.ok.kind]; rfl
 have hiσ:i<σ.length:=by rw [I.len]; exact (List.getElem?_eq_some_iff.mp hi).1
 have cne:=I.cne
 have tracked:∀{a:Addr} {h':Heap},(∃o,s.heap.get? a=some o/\H a=none)->Heap.SameBut a s.heap h'->kx X.prog X.w H h':=fun {a h'} ha hs b ob e=>by
  obtain ⟨_,_,hfree⟩:=ha
  refine (I.hok b ob e).stay (fun c w' hc q=>(hs.2 c ?_).trans q) (fun _ q=>q) fun _ _ q=>q
  rintro rfl
  rcases hc with rfl|hc
  ·rw [hfree] at e; cases e
  ·rw [hfree] at hc; cases hc
 rcases hx with hk|hk
 ·refine wpAny_storeName_local hk hn (fun h' hn' hs=>?_) hcls
  obtain ⟨oL,_,_,hoL,_⟩:=id hn
  refine h _ ⟨I.ok,I.os,I.bare,⟨fun b o e n hb hx=>?_,fun b o e n hb hx=>?_,I.base.free,fun b o e hx=>?_,I.base.tups,I.base.frzs,I.base.tbls⟩,⟨_,hn',fun j y v' e1 e2 e3=>?_⟩,fun y c e=>?_,I.free,I.freeC,fun p hp=>?_,tracked ⟨oL,hoL,I.free⟩ hs,by simpa using I.len⟩ ⟨_,hs,.inl rfl⟩
  ·exact (hs.2 b (Nat.ne_of_lt (Nat.lt_of_lt_of_le (J8 e) I.ok.above))).trans (I.base.keep b o e n hb hx)
  ·obtain ⟨sl,e1⟩:=I.base.slot b o e n hb hx
   exact ⟨sl,(hs.2 b (Nat.ne_of_lt (Nat.lt_of_lt_of_le (J8 e) I.ok.above))).trans e1⟩
  ·obtain ⟨o',e1⟩:=I.base.there b o e hx
   exact ⟨o',(hs.2 b (Nat.ne_of_lt (Nat.lt_of_lt_of_le (J8 e) I.ok.above))).trans e1⟩
  ·by_cases hj:j=i
   ·subst hj
    rw [hi] at e1; cases e1
    rw [List.getElem?_set_self hiσ] at e2
    cases e2
    exact ⟨u,r,.inl ⟨hk,0x4⟩⟩
   ·rw [List.getElem?_set_ne (Ne.symm hj)] at e2
    obtain ⟨u',r',q⟩:=hl j y v' e1 e2 e3
    refine ⟨u',r',?_⟩
    rcases q with ⟨k,e⟩|⟨k,c,e,z⟩
    ·refine .inl ⟨k,?_⟩
     have:y≠x:=fun e=>hj (uB hN e1 (e▸hi))
     simp [this,e]
    ·exact .inr ⟨k,c,e,z.sameBut hs (cne y c e)⟩
  ·obtain ⟨w',z⟩:=I.cell y c e
   exact ⟨w',z.sameBut hs (cne y c e)⟩
  ·obtain ⟨e,n,ne,nf,d⟩:=I.pin p hp
   exact ⟨(hs.2 p.1 ne).trans e,n,ne,nf,d⟩
 ·have hfn:X.fn x=true:=by
   rcases hf with z|z
   ·exact z
   ·rw [z] at hk; cases hk
  obtain ⟨c,hc⟩:=I.ok.has x (.inl hk)
  obtain ⟨w',z⟩:=I.cell x c hc
  refine wpAny_storeName_cell I.ok.kind hk hc z (fun h' hc' hs=>?_)
  obtain ⟨oc,hoc,hocd⟩:=id z
  refine h { s with heap:=h' } ⟨I.ok,I.os,I.bare,⟨fun b o e n hb hx=>?_,fun b o e n hb hx=>?_,I.base.free,fun b o e hx=>?_,I.base.tups,I.base.frzs,I.base.tbls⟩,⟨m,hn.sameBut hs (Ne.symm (cne x c hc)),fun j y v' e1 e2 e3=>?_⟩,fun y c' e=>?_,I.free,I.freeC,fun p hp=>?_,tracked ⟨oc,hoc,I.freeC x c hc⟩ hs,by simpa using I.len⟩ ⟨c,hs,.inr hc⟩
  ·exact (hs.2 b (Nat.ne_of_lt (Nat.lt_of_lt_of_le (J8 e) (I.ok.cab x c hfn hc)))).trans (I.base.keep b o e n hb hx)
  ·obtain ⟨sl,e1⟩:=I.base.slot b o e n hb hx
   exact ⟨sl,(hs.2 b (Nat.ne_of_lt (Nat.lt_of_lt_of_le (J8 e) (I.ok.cab x c hfn hc)))).trans e1⟩
  ·obtain ⟨o',e1⟩:=I.base.there b o e hx
   exact ⟨o',(hs.2 b (Nat.ne_of_lt (Nat.lt_of_lt_of_le (J8 e) (I.ok.cab x c hfn hc)))).trans e1⟩
  ·by_cases hj:j=i
   ·subst hj
    rw [hi] at e1; cases e1
    rw [List.getElem?_set_self hiσ] at e2
    cases e2
    exact ⟨u,r,.inr ⟨.inl hk,c,hc,hc'⟩⟩
   ·rw [List.getElem?_set_ne (Ne.symm hj)] at e2
    obtain ⟨u',r',q⟩:=hl j y v' e1 e2 e3
    refine ⟨u',r',?_⟩
    rcases q with q|⟨k,c',e,z'⟩
    ·exact .inl q
    ·refine .inr ⟨k,c',e,z'.sameBut hs ?_⟩
     rintro rfl
     exact hj (uB hN e1 (I.ok.inj _ _ _ e hc▸hi))
  ·by_cases hcc:c'=c
   ·subst hcc; exact ⟨_,hc'⟩
   ·obtain ⟨w2,z2⟩:=I.cell y c' e
    exact ⟨w2,z2.sameBut hs hcc⟩
  ·obtain ⟨e,n,ne,nf,d⟩:=I.pin p hp
   refine ⟨(hs.2 p.1 ?_).trans e,n,ne,nf,d⟩
   intro q
   rw [q,hoc] at e
   have q':oc=p.2:=Option.some.inj e
   exact d w' (by rw [<-q']; exact hocd)
theorem uA {M:Model} {A:Around} {E:Value->Shared->Prop} {i:Nat} {x:Str} {v:V} {u:Value} {Q:Unit->Shared->Prop} (I:Inv X pins σ H s) (hN:X.N.Nodup) (hi:X.N[i]?=some x) (hx:Hn X.env.scope x) (r:br v u)
  (h:∀s',Inv X pins (σ.set i (some v)) H s'->Q () s') (hf:X.fn x=true\/X.env.scope.names.lookup x=some .local:=by first|exact .inl rfl|exact .inr rfl|assumption):wpAny M A (storeName X.env x u) Q E s:=
 qV I hN hi hx r (fun s' I' _=>h s' I') hf
theorem Inv.call' {s':Shared} {ch:List Addr} (I:Inv X pins σ H s) (ho:s'.os=s.os) (u:Un (ir X.stack) ch H H' s.heap s'.heap) (hok:kx X.prog X.w H' s'.heap) (hg:AllBare s'.gens)
  (hch:∀b∈ch,(b∈X.ex\/X.s₀.heap.objs.size<=b)/\b≠X.env.locals/\(∀x c,X.env.cells.lookup x=some c->c≠b)/\∀p∈X.pn++pins,p.1≠b):Inv X pins σ H' s':=by
 obtain ⟨h',g',d',t',o'⟩:=s'
 have e:o'=s.os:=ho
 subst e
 exact I.call (g':=g') (t':=t') (d':=d') u hok hg hch
end
noncomputable abbrev XK:=Value->Option Addr->Hp->Prop
noncomputable abbrev St:=List (Option V)
noncomputable abbrev VK:=V->Hp->Prop
noncomputable abbrev TE:=St->Hp->VK->Prop
noncomputable abbrev TT:=St->Hp->(Bool->Hp->Prop)->Prop
noncomputable abbrev TA:=St->Hp->(List V->Hp->Prop)->Prop
structure Ends where
 nx:St->Hp->Prop
 rt:VK
 bk:St->Hp->Prop:=fun _ _=>False
 ct:St->Hp->Prop:=fun _ _=>False
noncomputable abbrev TS:=Ends->St->Hp->Prop
noncomputable def EP (X:Cx) (pins:List (Addr×Obj)) (σ:St) (Q:VK) (u:Value) (s':Shared):Prop:=∃v H',Inv X pins σ H' s'/\br v u/\Q v H'
noncomputable def TP (X:Cx) (pins:List (Addr×Obj)) (σ:St) (Q:Bool->Hp->Prop) (b:Bool) (s':Shared):Prop:=∃H',Inv X pins σ H' s'/\Q b H'
noncomputable def AP (X:Cx) (pins:List (Addr×Obj)) (σ:St) (Q:List V->Hp->Prop) (us:List Value) (s':Shared):Prop:=∃vs H',Inv X pins σ H' s'/\aQ vs us/\Q vs H'
noncomputable def SP (X:Cx) (pins:List (Addr×Obj)) (D:Ends) (f:Flow) (s':Shared):Prop:=
 match f with
 |.next=>∃σ' H',Inv X pins σ' H' s'/\D.nx σ' H'
 |.brk=>∃σ' H',Inv X pins σ' H' s'/\D.bk σ' H'
 |.cont=>∃σ' H',Inv X pins σ' H' s'/\D.ct σ' H'
 |.ret u=>∃v σ' H',Inv X pins σ' H' s'/\br v u/\D.rt v H'
noncomputable def PE (X:Cx) (e:Expr) (t:TE):Prop:=
 ∀(pins:List (Addr×Obj)) (s:Shared) (σ:St) (H:Hp) (Q:VK),Inv X pins σ H s->t σ H Q->wpAny (model X.prog X.w) X.A (eval e X.env) (EP X pins σ Q) X.xe s
noncomputable def PT (X:Cx) (e:Expr) (t:TT):Prop:=
 ∀(pins:List (Addr×Obj)) (s:Shared) (σ:St) (H:Hp) (Q:Bool->Hp->Prop),Inv X pins σ H s->t σ H Q->wpAny (model X.prog X.w) X.A (isTrue e X.env (eval e X.env)) (TP X pins σ Q) X.xe s
noncomputable def PW (X:Cx) (e:Expr) (t:TT):Prop:=
 ∀(whole:Sem Value) (pins:List (Addr×Obj)) (s:Shared) (σ:St) (H:Hp) (Q:Bool->Hp->Prop),Inv X pins σ H s->t σ H Q->wpAny (model X.prog X.w) X.A (isTrue e X.env whole) (TP X pins σ Q) X.xe s
theorem PW.pt {X:Cx} {e:Expr} {t:TT} (h:PW X e t):PT X e t:=h _
noncomputable def PA (X:Cx) (es:List Expr) (t:TA):Prop:=
 ∀(pos:Pos) (pins:List (Addr×Obj)) (s:Shared) (σ:St) (H:Hp) (Q:List V->Hp->Prop),Inv X pins σ H s->t σ H Q->wpAny (model X.prog X.w) X.A (spliced (backTo pos (starEach es X.env))) (AP X pins σ Q) X.xe s
noncomputable def PS (X:Cx) (st:Stmt) (t:TS):Prop:=
 ∀(pins:List (Addr×Obj)) (s:Shared) (σ:St) (H:Hp) (D:Ends),Inv X pins σ H s->t D σ H->wpAny (model X.prog X.w) X.A (exec st X.env) (SP X pins D) X.xe s
noncomputable def qy (X:Cx) (st:List Stmt) (t:TS):Prop:=
 ∀(pins:List (Addr×Obj)) (s:Shared) (σ:St) (H:Hp) (D:Ends),Inv X pins σ H s->t D σ H->wpAny (model X.prog X.w) X.A (execs st X.env) (SP X pins D) X.xe s
theorem bS {α:Type} {t:Sem α} {Q Q':α->Shared->Prop} {M:Model} {A:Around} {E:Value->Shared->Prop} {s:Shared} (h:wpAny M A t Q E s) (hQ:∀a s,Q a s->Q' a s):wpAny M A t Q' E s:=wpAny_mono h hQ fun _ _ x=>x
section
variable {X:Cx}
theorem Jj {a b:Expr} {ta tb:TE} (ha:PE X a ta) (hb:PE X b tb) {pins:List (Addr×Obj)} {s:Shared} {σ:St} {H:Hp} {R:V->V->Hp->Prop} (I:Inv X pins σ H s) (h:ta σ H fun x H1=>tb σ H1 fun y H2=>R x y H2)
  {α:Type} {Q:α->Shared->Prop} {f:Value->Value->Sem α}
  (hf:∀v u s2 x y H2,Inv X pins σ H2 s2->br x v->br y u->R x y H2->wpAny (model X.prog X.w) X.A (f v u) Q X.xe s2) :
  wpAny (model X.prog X.w) X.A (eval a X.env) (fun v s₁=>wpAny (model X.prog X.w) X.A (eval b X.env) (fun u s₂=>wpAny (model X.prog X.w) X.A (f v u) Q X.xe s₂) X.xe s₁) X.xe s:=by
 refine bS (ha pins s σ H _ I h) fun v s1 ⟨x,H1,I1,r1,q1⟩=>?_
 refine bS (hb pins s1 σ H1 _ I1 q1) fun u s2 ⟨y,H2,I2,r2,q2⟩=>?_
 exact hf v u s2 x y H2 I2 r1 r2 q2
noncomputable def gY (i:Nat):TE:=fun σ H Q=>∃v,σ[i]?=some (some v)/\Q v H
noncomputable def tC (v:V):TE:=fun _ H Q=>Q v H
theorem Gd {i:Nat} {x:Str} {pos:Pos} (hN:X.N[i]?=some x) (hv:Ir X.env.scope x) (hd:(x==("__debug__" : Str))=false:=by decide) (hcd:(x==("__classdict__" : Str))=false:=by decide):PE X (.Name x pos) (gY i):=by
 intro pins s σ H Q I h
 obtain ⟨v,e,h⟩:=h
 obtain ⟨m,hn,hl⟩:=I.loc
 obtain ⟨u,r,l⟩:=hl i x v hN e hv
 have fin:EP X pins σ Q u s:=⟨v,H,I,r,h⟩
 rcases l with ⟨hk,hm⟩|⟨hk,c,hc,hcell⟩
 ·exact wpAny_Name (wpAny_loadName_local I.ok.kind hk hn hm fin) hd
 ·rcases hk with hk|hk
  ·exact wpAny_Name (wpAny_loadName_cell I.ok.kind hk hc hcell fin) hd
  ·exact wpAny_Name (wpAny_loadName_free I.ok.kind hk hc hcell fin hcd) hd
theorem Ft {i j pos}:PE X (.Constant (.int i) j pos) (tC (.int i)):=fun _ _ _ H _ I h=>wpAny_Constant_int ⟨.int i,H,I.tok _,⟨_,rfl⟩,h⟩
theorem HH {b j pos}:PE X (.Constant (.bool b) j pos) (tC (.bl b)):=fun _ _ _ H _ I h=>Constant_bool ⟨.bl b,H,I,rfl,h⟩
theorem zT {x j pos}:PE X (.Constant (.str x) j pos) (tC (.str x)):=fun _ _ _ H _ I h=>Calls.Constant_str ⟨.str x,H,I.tok _,⟨_,rfl⟩,h⟩
noncomputable def Gl (X:Cx) (x:Str):Prop:=X.env.kindOf x=some .globalImplicit
theorem ou {E:Value->Shared->Prop} {pins:List (Addr×Obj)} {s:Shared} {σ:St} {H:Hp} {x:Str} {u:Value} {pos:Pos} {Q:Value->Shared->Prop} (I:Inv X pins σ H s) (hg:Gl X x) (hm:X.mg x=some u) (h:Q u s)
  (hd:(x==("__debug__" : Str))=false:=by decide):wpAny (model X.prog X.w) X.A (eval (.Name x pos) X.env) Q E s:=
 Calls.Name_function_global I.ok.kind hg (Calls.loadGlobal_global (by rw [I.ok.glob]; exact I.mod.glob.keeps I.bk) hm h) hd
theorem sE {E:Value->Shared->Prop} {pins:List (Addr×Obj)} {s:Shared} {σ:St} {H:Hp} {x:Str} {u:Value} {pos:Pos} {Q:Value->Shared->Prop} (I:Inv X pins σ H s) (hg:Gl X x) (hm:X.mg x=none) (hv:bootBuiltins x=some u) (h:Q u s)
  (hn:x ≠ "__name__" :=by decide) (hd:(x==("__debug__" : Str))=false:=by decide):wpAny (model X.prog X.w) X.A (eval (.Name x pos) X.env) Q E s:=by
 obtain ⟨mb,h1,h2⟩:=I.mod.blt
 exact Calls.Name_function_global I.ok.kind hg (Calls.loadGlobal_builtin (by rw [I.ok.glob]; exact I.mod.glob.keeps I.bk) hm (by rw [I.ok.blt]; exact h1.keeps I.bk) ((h2 x hn).trans hv) h) hd
theorem CA {x:Str} {v:V} {u:Value} {pos:Pos} (hg:Gl X x) (hm:X.mg x=some u) (r:br v u) (hd:(x==("__debug__" : Str))=false:=by decide):PE X (.Name x pos) (tC v):=
 fun _ _ _ H _ I h=>ou I hg hm ⟨v,H,I,r,h⟩ hd
variable {a b:Expr} {ta tb:TE} {pos:Pos}
noncomputable def PC (X:Cx) (op:CmpOp) (a b:Expr) (t:TE):Prop:=
 ∀(pins:List (Addr×Obj)) (s:Shared) (σ:St) (H:Hp) (Q:VK),Inv X pins σ H s->t σ H Q ->
  wpAny (model X.prog X.w) X.A (eval a X.env) (fun v s₁=>wpAny (model X.prog X.w) X.A (eval b X.env) (fun u s₂=>wpAny (model X.prog X.w) X.A (compareOp op v u) (EP X pins σ Q) X.xe s₂) X.xe s₁) X.xe s
theorem BX (b:Expr) {op:CmpOp} (h:op≠.In) (h2:op≠.NotIn):behindInMarks op b=false:=by
 have e1:(op==CmpOp.In)=false:=by cases op <;> first|rfl|exact absurd rfl h
 have e2:(op==CmpOp.NotIn)=false:=by cases op <;> first|rfl|exact absurd rfl h2
 cases b <;> simp [behindInMarks,e1,e2]
noncomputable def tB (t:TE):TT:=fun σ H Q=>t σ H fun x H1=>∃c,x=.bl c/\Q c H1
theorem IK {op:CmpOp} {t:TE} (h:PC X op a b t) (h1:behindInMarks op b=false:=by first|exact BX _ 0x3 0x3|rfl):PT X (.Compare a [op] [b] pos) (tB t):=by
 intro pins s σ H Q I hw
 refine wpAny_isTrue_Compare1 (bS (h pins s σ H _ I hw) fun v s1 h1=>bS h1 fun u s2 h2=>bS h2 fun c s3 ⟨x,H1,I1,r1,q1⟩=>?_) h1
 obtain ⟨d,rfl,q⟩:=q1
 cases r1
 exact wpAny_truthy_bool ⟨H1,I1,q⟩
theorem Gh {e:Expr} {t:TE} (h:PE X e t) (he:∀whole,isTrue e X.env whole=(do let v <-whole; standAt e.pos; holding [v] (truthy v)):=by intro _; rfl):PT X e (tB t):=by
 intro pins s σ H Q I hw
 refine isTrue_plain (bS (h pins s σ H _ I hw) fun v s1 ⟨x,H1,I1,r1,q1⟩=>?_) (he _)
 obtain ⟨d,rfl,q⟩:=q1
 cases r1
 exact wpAny_truthy_bool ⟨H1,I1,q⟩
variable {tA tB':TT} {eL:List Expr}
noncomputable def IX (t u:TT):TT:=fun σ H Q=>t σ H fun c H1=>if c=true then u σ H1 Q else Q false H1
noncomputable def JD (t u:TT):TT:=fun σ H Q=>t σ H fun c H1=>if c=true then Q true H1 else u σ H1 Q
noncomputable def IC (t:TT):TT:=fun σ H Q=>t σ H fun c H1=>Q (!c) H1
theorem CY (ha:PT X a tA):PW X (.BoolOp .And [a] pos) tA:=by
 intro wh pins s σ H Q I h
 refine isTrue_and (bS (ha pins s σ H Q I h) fun c s1 e=>?_)
 cases c with
 |true=>exact isTrue_and_nil e
 |false=>exact e
theorem Fp (ha:PT X a tA):PW X (.BoolOp .Or [a] pos) tA:=by
 intro wh pins s σ H Q I h
 refine isTrue_or (bS (ha pins s σ H Q I h) fun c s1 e=>?_)
 cases c with
 |false=>exact isTrue_or_nil e
 |true=>exact e
theorem Fs (ha:PT X a tA) (hb:PW X (.BoolOp .And (b::eL) pos) tB'):PW X (.BoolOp .And (a::b::eL) pos) (IX tA tB'):=by
 intro wh pins s σ H Q I h
 refine isTrue_and (bS (ha pins s σ H _ I h) fun c s1 ⟨H1,I1,q1⟩=>?_)
 cases c with
 |true=>exact hb wh pins s1 σ H1 Q I1 q1
 |false=>exact ⟨H1,I1,q1⟩
theorem Hm (ha:PT X a tA) (hb:PW X (.BoolOp .Or (b::eL) pos) tB'):PW X (.BoolOp .Or (a::b::eL) pos) (JD tA tB'):=by
 intro wh pins s σ H Q I h
 refine isTrue_or (bS (ha pins s σ H _ I h) fun c s1 ⟨H1,I1,q1⟩=>?_)
 cases c with
 |true=>exact ⟨H1,I1,q1⟩
 |false=>exact hb wh pins s1 σ H1 Q I1 q1
theorem Fi (ha:PT X a tA):PT X (.UnaryOp .Not a pos) (IC tA):=by
 intro pins s σ H Q I h
 exact isTrue_not (ha pins s σ H (fun c H1=>Q (!c) H1) I h)
noncomputable def HC (ta tb:TE):TE:=fun σ H Q=>ta σ H fun x H1=>∃c,x=.bl c/\if c=true then tb σ H1 Q else Q (.bl false) H1
noncomputable def IT (ta tb:TE):TE:=fun σ H Q=>ta σ H fun x H1=>∃c,x=.bl c/\if c=true then Q (.bl true) H1 else tb σ H1 Q
noncomputable def Ht (ta:TE):TE:=fun σ H Q=>ta σ H fun x H1=>∃c,x=.bl c/\Q (.bl (!c)) H1
theorem FE {op} {t:TE} (h:PE X a t):PE X (.BoolOp op [a] pos) t:=fun pins s σ H Q I hw=>BoolOp_one (h pins s σ H Q I hw)
theorem Gk (ha:PE X a ta) (hb:PE X (.BoolOp .And (b::eL) pos) tb):PE X (.BoolOp .And (a::b::eL) pos) (HC ta tb):=by
 intro pins s σ H Q I h
 refine BoolOp_and (bS (ha pins s σ H _ I h) fun v s1 ⟨x,H1,I1,r1,q1⟩=>?_)
 obtain ⟨c,rfl,q1⟩:=q1
 cases r1
 refine wpAny_truthy_bool ?_
 cases c with
 |true=>exact hb pins s1 σ H1 Q I1 q1
 |false=>exact ⟨.bl false,H1,I1,rfl,q1⟩
theorem Im (ha:PE X a ta) (hb:PE X (.BoolOp .Or (b::eL) pos) tb):PE X (.BoolOp .Or (a::b::eL) pos) (IT ta tb):=by
 intro pins s σ H Q I h
 refine BoolOp_or (bS (ha pins s σ H _ I h) fun v s1 ⟨x,H1,I1,r1,q1⟩=>?_)
 obtain ⟨c,rfl,q1⟩:=q1
 cases r1
 refine wpAny_truthy_bool ?_
 cases c with
 |false=>exact hb pins s1 σ H1 Q I1 q1
 |true=>exact ⟨.bl true,H1,I1,rfl,q1⟩
theorem Fz (ha:PE X a ta):PE X (.UnaryOp .Not a pos) (Ht ta):=by
 intro pins s σ H Q I h
 refine UnaryOp_ (bS (ha pins s σ H _ I h) fun v s1 ⟨x,H1,I1,r1,q1⟩=>?_)
 obtain ⟨c,rfl,q1⟩:=q1
 cases r1
 exact not_of (wpAny_truthy_bool ⟨.bl (!c),H1,I1,rfl,q1⟩)
end
noncomputable def gg (K:Kd) (H:Hp) (a:Addr) (xs:List V):Prop:=
 Rd H a (.lst xs) \/
  ∃(o:Obj) (its:Array Value) (n:Nat),K.lookup a=some o/\o.cls=.type "list" /\ o.dict=none/\o.data=.seq its n/\its.size<=sizeLine/\aQ xs its.toList
noncomputable def ka (K:Kd) (H:Hp) (a:Addr) (xs:List V):Prop:=
 Rd H a (.tup xs) \/
  ∃(o:Obj) (its:Array Value) (n:Nat),K.lookup a=some o/\o.cls=.type "tuple" /\ o.data=.seq its n/\its.size<=sizeLine/\aQ xs its.toList
noncomputable def IH:Value->Option V
 |.none=>some .non
 |.bool b=>some (.bl b)
 |.int i _=>some (.int i)
 |.str x _=>some (.str x)
 |.bytes b _=>some (.byt b)
 |.float b _=>some (.flt b)
 |.ref a=>some (.ref a)
 |.type n=>some (.ty n)
 |_=>none
theorem br.abs {x:V} {u:Value} (r:br x u):IH u=some x:=by
 cases x with
 |non=>cases r; rfl
 |bl _=>cases r; rfl
 |int _=>obtain ⟨t,rfl⟩:=r; rfl
 |str _=>obtain ⟨t,rfl⟩:=r; rfl
 |byt _=>obtain ⟨t,rfl⟩:=r; rfl
 |flt _=>obtain ⟨t,rfl⟩:=r; rfl
 |ref _=>cases r; rfl
 |ty _=>cases r; rfl
theorem br.inj {x y:V} {u:Value} (r:br x u) (q:br y u):x=y:=Option.some.inj (r.abs.symm.trans q.abs)
theorem aQ.inj:∀{xs ys:List V} {us:List Value},aQ xs us->aQ ys us->xs=ys
 |_,_,_,.nil,.nil=>rfl
 |_,_,_,.cons r t,.cons r' t'=>by rw [r.inj r',aQ.inj t t']
section
variable {X:Cx} {pins:List (Addr×Obj)} {σ:St} {H:Hp} {s:Shared} {a:Addr} {xs ys:List V}
theorem gg.of {K:Kd} (h:H a=some (.lst xs)):gg K H a xs:=.inl (.inl h)
theorem ka.of {K:Kd} (h:H a=some (.tup xs)):ka K H a xs:=.inl (.inl h)
theorem Inv.list (I:Inv X pins σ H s) (h:gg X.K H a xs):∃its:List Value,aQ xs its/\PlainL s.heap a its.toArray/\xs.length<=sizeLine:=by
 rcases h with h|⟨o,its,n,hk,hc,hd,hs,hz,r⟩
 ·obtain ⟨z,its,n,r,e⟩:=h.ok I.hok
  exact ⟨its,r,⟨_,n,e,rfl,rfl,rfl⟩,z⟩
 ·refine ⟨its.toList,r,⟨o,n,I.kIn a o hk,hc,hd,by simpa using hs⟩,?_⟩
  have e:=r.length
  simp only [Array.length_toList] at e
  lia
theorem Inv.tuple (I:Inv X pins σ H s) (h:ka X.K H a xs):∃its:List Value,aQ xs its/\IsTup s.heap a its.toArray/\xs.length<=sizeLine:=by
 rcases h with h|⟨o,its,n,hk,hc,hs,hz,r⟩
 ·obtain ⟨z,its,r,p⟩:=h.ok I.hok
  exact ⟨its,r,p,z⟩
 ·refine ⟨its.toList,r,⟨o,I.kIn a o hk,hc,n,by simpa using hs⟩,?_⟩
  have e:=r.length
  simp only [Array.length_toList] at e
  lia
theorem Inv.list_inj (I:Inv X pins σ H s) (h:gg X.K H a xs) (h':gg X.K H a ys):xs=ys:=by
 obtain ⟨its,r,⟨o,n,e,_,_,d⟩,_⟩:=I.list h
 obtain ⟨its',r',⟨o',n',e',_,_,d'⟩,_⟩:=I.list h'
 rw [e] at e'; cases e'
 rw [d] at d'
 injection d' with d1 _
 have:its=its':=by simpa using congrArg Array.toList d1
 subst this
 exact r.inj r'
theorem Inv.tuple_inj (I:Inv X pins σ H s) (h:ka X.K H a xs) (h':ka X.K H a ys):xs=ys:=by
 obtain ⟨its,r,⟨o,e,_,n,d⟩,_⟩:=I.tuple h
 obtain ⟨its',r',⟨o',e',_,n',d'⟩,_⟩:=I.tuple h'
 rw [e] at e'; cases e'
 rw [d] at d'
 injection d' with d1 _
 have:its=its':=by simpa using congrArg Array.toList d1
 subst this
 exact r.inj r'
end
noncomputable abbrev Cx.wish (X:Cx) (E:Value->Shared->Prop):Cx:={ X with xe:=E }
noncomputable abbrev Cx.nox (X:Cx):Cx:=X.wish fun _ _=>False
theorem Cx.Ok.wish {X:Cx} (ok:X.Ok) (E:Value->Shared->Prop):(X.wish E).Ok:=
 ⟨ok.mod,ok.kind,ok.glob,ok.blt,ok.above,ok.inj,ok.has,ok.cab,ok.hd,ok.frames,ok.stk,ok.exf,ok.bs,ok.bsz,ok.noex,ok.exfs,ok.funs,ok.frf⟩
theorem Cx.Ok.unwish {X:Cx} {E:Value->Shared->Prop} (ok:(X.wish E).Ok):X.Ok:=
 ⟨ok.mod,ok.kind,ok.glob,ok.blt,ok.above,ok.inj,ok.has,ok.cab,ok.hd,ok.frames,ok.stk,ok.exf,ok.bs,ok.bsz,ok.noex,ok.exfs,ok.funs,ok.frf⟩
section
variable {X:Cx} {pins:List (Addr×Obj)} {σ:St} {H:Hp} {s:Shared} {E:Value->Shared->Prop}
theorem Inv.wish (I:Inv X pins σ H s) (E:Value->Shared->Prop):Inv (X.wish E) pins σ H s:=⟨I.ok.wish E,I.os,I.bare,I.base,I.loc,I.cell,I.free,I.freeC,I.pin,I.hok,I.len⟩
theorem Inv.unwish (I:Inv (X.wish E) pins σ H s):Inv X pins σ H s:=⟨I.ok.unwish,I.os,I.bare,I.base,I.loc,I.cell,I.free,I.freeC,I.pin,I.hok,I.len⟩
theorem SP.unwish {D:Ends} {f:Flow} {s':Shared} (h:SP (X.wish E) pins D f s'):SP X pins D f s':=by
 cases f with
 |next=>obtain ⟨σ',H',I,q⟩:=h; exact ⟨σ',H',I.unwish,q⟩
 |brk=>obtain ⟨σ',H',I,q⟩:=h; exact ⟨σ',H',I.unwish,q⟩
 |cont=>obtain ⟨σ',H',I,q⟩:=h; exact ⟨σ',H',I.unwish,q⟩
 |ret u=>obtain ⟨v,σ',H',I,r,q⟩:=h; exact ⟨v,σ',H',I.unwish,r,q⟩
theorem qy.nox {st:List Stmt} {t:TS} (h:qy X.nox st t):qy X st t:=fun pins s σ H D I hw=>
 wpAny_mono (h pins s σ H D (I.wish _) hw) (fun _ _ q=>q.unwish) fun _ _ z=>False.elim z
end
section
variable {X:Cx} {st:Stmt} {eL:List Stmt} {t u:TS} {e:Expr} {te:TE} {pos:Pos}
noncomputable def HZ:TS:=fun D σ H=>D.nx σ H
noncomputable def HD (t u:TS):TS:=fun D σ H=>t { D with nx:=u D } σ H
theorem nW:qy X [] HZ:=fun _ _ σ H _ I h=>wpAny_execs_nil ⟨σ,H,I,h⟩
theorem fX (h1:PS X st t) (h2:qy X eL u):qy X (st::eL) (HD t u):=by
 intro pins s σ H D I h
 refine wpAny_execs_cons (bS (h1 pins s σ H { D with nx:=u D } I h) fun f s1 q=>?_)
 cases f with
 |next=>
  obtain ⟨σ',H',I',q⟩:=q
  exact h2 pins s1 σ' H' D I' q
 |ret v=>exact q
 |brk=>exact q
 |cont=>exact q
theorem fS (h1:PS X st t):qy X [st] t:=by
 intro pins s σ H D I h
 refine wpAny_execs_cons (bS (h1 pins s σ H D I h) fun f s1 q=>?_)
 cases f with
 |next=>exact wpAny_execs_nil q
 |ret v=>exact q
 |brk=>exact q
 |cont=>exact q
theorem Inv.quiet {pins:List (Addr×Obj)} {σ:St} {H:Hp} {s:Shared} (I:Inv X pins σ H s):interactive X.env=false:=by simp [interactive,I.ok.kind]
noncomputable def Hi (te:TE):TS:=fun D σ H=>te σ H fun _ H1=>D.nx σ H1
theorem lY (he:PE X e te) (hs:swapsWith e none pos.line X.env=pure false:=by rfl):PS X (.Expr e pos) (Hi te):=by
 intro pins s σ H D I h
 exact wpAny_Expr_any (bS (he pins s σ H _ I h) fun v s1 ⟨x,H1,I1,r1,q1⟩=>⟨σ,H1,I1,q1⟩) I.quiet hs
noncomputable def G3 (te:TE):TS:=fun D σ H=>te σ H D.rt
theorem wc (he:PE X e te):PS X (.Return (some e) pos) (G3 te):=by
 intro pins s σ H D I h
 exact wpAny_Return_some (bS (he pins s σ H _ I h) fun v s1 ⟨x,H1,I1,r1,q1⟩=>⟨x,σ,H1,I1,r1,q1⟩)
noncomputable def Jm (c:TT) (t u:TS):TS:=fun D σ H=>c σ H fun b H1=>if b=true then t D σ H1 else u D σ H1
theorem yA {c:Expr} {a b:List Stmt} {tc:TT} (hc:PT X c tc) (ha:qy X a t) (hb:qy X b u):PS X (.If c a b pos) (Jm tc t u):=by
 intro pins s σ H D I h
 refine wpAny_If (bS (hc pins s σ H _ I h) fun d s1 ⟨H1,I1,q1⟩=>?_)
 cases d with
 |true=>exact ha pins s1 σ H1 D I1 q1
 |false=>exact hb pins s1 σ H1 D I1 q1
end
noncomputable abbrev TG:=V->St->Hp->(St->Hp->Prop)->Prop
noncomputable abbrev Cj:=List V->St->Hp->(St->Hp->Prop)->Prop
noncomputable def PG (X:Cx) (target:Expr) (t:TG):Prop:=
 ∀(pins:List (Addr×Obj)) (s:Shared) (σ:St) (H:Hp) (v:V) (u:Value) (Q:St->Hp->Prop),Inv X pins σ H s->br v u->t v σ H Q ->
  wpAny (model X.prog X.w) X.A (assign target X.env u) (fun _ s'=>∃σ' H',Inv X pins σ' H' s'/\Q σ' H') X.xe s
noncomputable def Iw (X:Cx) (ts:List Expr) (t:Cj):Prop:=
 ∀(pins:List (Addr×Obj)) (s:Shared) (σ:St) (H:Hp) (vs:List V) (us:List Value) (Q:St->Hp->Prop),Inv X pins σ H s->aQ vs us->t vs σ H Q ->
  wpAny (model X.prog X.w) X.A (assignInOrder ((assignEach ts X.env).map (·.2)) us) (fun _ s'=>∃σ' H',Inv X pins σ' H' s'/\Q σ' H') X.xe s
section
variable {X:Cx} {pos:Pos}
noncomputable def oE (i:Nat):TG:=fun v σ H Q=>Q (σ.set i (some v)) H
theorem aG {i:Nat} {x:Str} (hN:X.N.Nodup) (hi:X.N[i]?=some x) (hx:Hn X.env.scope x) (hf:X.fn x=true\/X.env.scope.names.lookup x=some .local:=by first|exact .inl rfl|exact .inr rfl|assumption):PG X (.Name x pos) (oE i):=by
 intro pins s σ H v u Q I r h
 exact wpAny_assign_Name (uA I hN hi hx r (fun s' I'=>⟨_,H,I',h⟩) hf)
noncomputable def HN:Cj:=fun vs σ H Q=>vs=[]/\Q σ H
noncomputable def EW (t:TG) (u:Cj):Cj:=fun vs σ H Q=>∃v r,vs=v::r/\t v σ H fun σ' H'=>u r σ' H' Q
theorem lL:Iw X [] HN:=by
 intro pins s σ H vs us Q I r h
 obtain ⟨e,h⟩:=h
 subst e
 cases r
 exact assignInOrder_nil ⟨σ,H,I,h⟩
theorem dW {e:Expr} {es:List Expr} {t:TG} {u:Cj} (h1:PG X e t) (h2:Iw X es u)
  (hs:(assignEach (e::es) X.env).map (·.2)=assign e X.env::(assignEach es X.env).map (·.2):=by rfl):Iw X (e::es) (EW t u):=by
 intro pins s σ H vs us Q I r h
 obtain ⟨v,vr,e1,h⟩:=h
 subst e1
 cases r with
 |cons r rr=>
  rw [hs]
  refine assignInOrder_cons (bS (h1 pins s σ H _ _ _ I r h) fun _ s1 ⟨σ1,H1,I1,q1⟩=>?_)
  exact h2 pins s1 σ1 H1 _ _ Q I1 rr q1
noncomputable def Hz (K:Kd) (n:Nat) (t:Cj):TG:=fun v σ H Q=>∃a xs,v=.ref a/\ka K H a xs/\xs.length=n/\t xs σ H Q
theorem qu {es:List Expr} {k:Nat} {t:Cj} {n:Nat} (hc:X.calm=true) (h:Iw X es t)
  (hn:(assignEach es X.env).length=n:=by rfl) (hst:(assignEach es X.env).findIdx? (·.1)=none:=by rfl):PG X (.Tuple es k pos) (Hz X.K n t):=by
 intro pins s σ H v u Q I r hw
 obtain ⟨a,xs,e1,hq,hl,hw⟩:=hw
 subst e1
 cases r
 obtain ⟨its,rv,ht,hz⟩:=I.tuple hq
 refine assign_Tuple_tuple (I.ok.hd hc) ht (by simp [hn,<-hl,rv.length]) hst fun h' hx=>?_
 have I1:Inv X pins σ H { s with heap:=h' }:=I.kept (t':=s.toks) fun b o e=>hx b o (Nat.ne_of_lt (J8 e)) e
 exact h pins _ σ H xs _ Q I1 (by simpa using rv) hw
noncomputable def FA (te:TE) (g:TG):TS:=fun D σ H=>te σ H fun x H1=>g x σ H1 D.nx
theorem Gj {tg e:Expr} {te:TE} {g:TG} (he:PE X e te) (hg:PG X tg g) (hs:swapsWithSole [tg] e pos.line X.env=pure false:=by rfl) (hw:swappedStores [tg] e X.env=pure none:=by rfl)
  (h1:(assignEach [tg] X.env).map (·.2)=[assign tg X.env]:=by rfl):PS X (.Assign [tg] e pos) (FA te g):=by
 intro pins s σ H D I h
 refine wpAny_Assign_stores (bS (he pins s σ H _ I h) fun v s1 ⟨x,H1,I1,r1,q1⟩=>?_) hs hw
 rw [h1]
 exact bS (hg pins s1 σ H1 x v _ I1 r1 q1) fun _ s2 q=>q
theorem AJ {i:Nat} {x:Str} {e:Expr} {te:TE} {pos':Pos} (hN:X.N.Nodup) (hi:X.N[i]?=some x) (hx:Hn X.env.scope x) (he:PE X e te) (hs:swapsWith e (some (.Name x pos')) pos.line X.env=pure false:=by rfl) (hf:X.fn x=true\/X.env.scope.names.lookup x=some .local:=by first|exact .inl rfl|exact .inr rfl|assumption) :
  PS X (.Assign [.Name x pos'] e pos) (FA te (oE i)):=by
 intro pins s σ H D I h
 refine wpAny_Assign_Name (bS (he pins s σ H _ I h) fun v s1 ⟨y,H1,I1,r1,q1⟩=>?_) hs
 exact uA I1 hN hi hx r1 (fun s2 I2=>⟨_,H1,I2,q1⟩) hf
end
section
variable {X:Cx} {pos:Pos}
noncomputable def GN (c:TT) (tb:TS):TS:=fun D σ H=>∃W:Nat->St->Hp->Prop,(∃m,W m σ H)/\∀m σ H,W m σ H ->
 c σ H fun b H1=>if b=true then ∃N:St->Hp->Prop,(∀σ' H',N σ' H'->∃m',m'<m/\W m' σ' H')/\tb { D with nx:=N,ct:=N,bk:=D.nx } σ H1 else D.nx σ H1
theorem zX {c:Expr} {body:List Stmt} {tc:TT} {tb:TS} (hp:PassesOwn (model X.prog X.w) X.A X.env X.xe) (hc:PT X c tc) (hb:qy X body tb):PS X (.While c body [] pos) (GN tc tb):=by
 intro pins s σ H D I h
 obtain ⟨W,⟨m0,w0⟩,turn⟩:=h
 refine wpAny_While (codeAny_whileLoop (fun n s'=>∃σ' H',Inv X pins σ' H' s'/\W n σ' H') ?_ m0 ⟨σ,H,I,w0⟩)
 rintro n s1 ⟨σ1,H1,I1,w1⟩
 refine wpAny_passesOwn hp (bS (hc pins s1 σ1 H1 _ I1 (turn n σ1 H1 w1)) fun b s2 ⟨H2,I2,q2⟩=>?_)
 cases b with
 |true=>
  obtain ⟨N,hN,q2⟩:=q2
  rw [if_pos rfl]
  refine wpAny_passesOwn hp (bS (hb pins s2 σ1 H2 _ I2 q2) fun f s3 q3=>?_)
  cases f with
  |next=>
   obtain ⟨σ3,H3,I3,n3⟩:=q3
   obtain ⟨m',hm,w3⟩:=hN σ3 H3 n3
   exact ⟨m',hm,σ3,H3,I3,w3⟩
  |cont=>
   obtain ⟨σ3,H3,I3,n3⟩:=q3
   obtain ⟨m',hm,w3⟩:=hN σ3 H3 n3
   exact ⟨m',hm,σ3,H3,I3,w3⟩
  |brk=>exact q3
  |ret v=>exact q3
 |false=>
  rw [if_neg Bool.false_ne_true]
  exact wpAny_execs_nil ⟨σ1,H2,I2,q2⟩
end
structure It where
 go:Nat->Hp->Prop
 yld:Nat->Hp->V->Hp->Prop
 stop:Nat->Hp->Prop
noncomputable def nS (X:Cx) (pins:List (Addr×Obj)) (H:Hp) (b:Addr):Prop:=
 H b=none/\b≠X.env.locals/\b∉X.fs/\(b∈X.ex\/X.s₀.heap.objs.size<=b)/\(∀x c,X.env.cells.lookup x=some c->c≠b)/\∀p∈X.pn++pins,p.1≠b
theorem Inv.fpOk {X:Cx} {pins:List (Addr×Obj)} {σ:St} {H H':Hp} {s:Shared} {b:Addr} (I:Inv X pins σ H s) (hb:s.heap.objs.size<=b) (hn:H' b=none):nS X pins H' b:=by
 refine ⟨hn,Nat.ne_of_gt (Nat.lt_of_lt_of_le I.lt hb),I.nofs hb,.inr (Nat.le_trans I.sz hb),fun x c e z=>?_,fun p hp z=>?_⟩
 ·obtain ⟨v,q⟩:=I.cell x c e
  exact absurd (Nat.lt_of_lt_of_le q.lt (by rw [z]; exact hb)) (Nat.lt_irrefl _)
 ·exact absurd (Nat.lt_of_lt_of_le (J8 (I.pin p hp).1) (by rw [z]; exact hb)) (Nat.lt_irrefl _)
structure Turn (P:Program) (w:World) (K:Kd) (tg:Expr) (J:It) (fp:List Addr) (it:Addr) (tn:Nat->Heap->Prop):Prop where
 mem:it∈fp
 obj:∀i h,tn i h->∀b∈fp,∃o,h.get? b=some o/\∀v,o.data≠.cell v
 keep:∀i h h',tn i h->(∀b∈fp,∀o,h.get? b=some o->h'.get? b=some o)->tn i h'
 item:∀(X:Cx),X.prog=P->X.w=w->X.K=K->X.calm=true->∀(i:Nat) (pins:List (Addr×Obj)) (s:Shared) (σ:St) (H:Hp) (E:Value->Shared->Prop),Inv X pins σ H s->(∀b∈fp,nS X pins H b)->tn i s.heap->J.go i H ->
  wpAny (model P w) X.A (pyNext (.ref it)) (fun r s1=>∃u,r=some u /\
   wpAny (model P w) X.A (letOwnedTupleGo tg (.ref it) u) (fun _ s2=>∃x H',Inv X pins σ H' s2/\br x u/\J.yld i H x H'/\tn (i+1) s2.heap/\∀b∈fp,H' b=none) E s1) E s
 done:∀(X:Cx),X.prog=P->X.w=w->X.K=K->X.calm=true->∀(i:Nat) (pins:List (Addr×Obj)) (s:Shared) (σ:St) (H:Hp) (E:Value->Shared->Prop),Inv X pins σ H s->(∀b∈fp,nS X pins H b)->tn i s.heap->J.stop i H ->
  wpAny (model P w) X.A (pyNext (.ref it)) (fun r s1=>r=none/\Inv X pins σ H s1) E s
 self:∀(A:Around) (i:Nat) (s:Shared) (Q:Value->Shared->Prop) (E:Value->Shared->Prop),tn i s.heap->Q (.ref it) s->wpAny (model P w) A (pyIter (.ref it)) Q E s
noncomputable abbrev TI:=St->Hp->(It->Hp->Prop)->Prop
noncomputable def Jx (X:Cx) (pins:List (Addr×Obj)) (σ:St) (tg:Expr) (R:It->Hp->Prop) (itv:Value) (s2:Shared):Prop:=
 ∃(it:Addr) (fp:List Addr) (tn:Nat->Heap->Prop) (J:It) (H':Hp),itv=.ref it/\Inv X pins σ H' s2/\Turn X.prog X.w X.K tg J fp it tn/\tn 0 s2.heap/\(∀b∈fp,nS X pins H' b)/\R J H'
noncomputable def PI (X:Cx) (tg iter:Expr) (wi:TI):Prop:=
 ∀(pins:List (Addr×Obj)) (s:Shared) (σ:St) (H:Hp) (R:It->Hp->Prop),Inv X pins σ H s->wi σ H R ->
  wpAny (model X.prog X.w) X.A (eval iter X.env) (fun v s1=>wpAny (model X.prog X.w) X.A (pyIter v) (Jx X pins σ tg R) X.xe s1) X.xe s
theorem Cb {M:Model} {A:Around} {E:Value->Shared->Prop} {s:Shared} {tg:Expr} {it:Addr} {u:Value} {o:Obj} {n:String} {vs:Array Value} {Q:Unit->Shared->Prop} (ho:s.heap.get? it=some o) (hc:o.cls=.type n) (hd:o.data=.fields vs)
  (hn:["enumerate", "zip", "dict_itemiterator", "dict_reverseitemiterator", "odict_iterator", "itertools.zip_longest", "itertools.pairwise"].contains n=false) (hQ:Q () s):wpAny M A (letOwnedTupleGo tg (.ref it) u) Q E s:=by
 unfold letOwnedTupleGo
 cases tg <;> first
  |exact J7 hQ
  |(cases u <;> first
    |exact J7 hQ
    |(refine J6 (wpAny_load ho ?_); rw [hc,hd]; show wpAny M A (if (["enumerate", "zip", "dict_itemiterator", "dict_reverseitemiterator", "odict_iterator", "itertools.zip_longest", "itertools.pairwise"].contains n&&vs[0]?==some (rawInt _))=true then _ else _) Q E s; rw [if_neg (by intro h; rw [hn,Bool.false_and] at h; cases h)]; exact J7 hQ))
noncomputable def Ji (K:Kd) (a:Addr):It:=
 ⟨fun i H=>∃xs x,gg K H a xs/\xs[i]?=some x,fun i H x H'=>H'=H/\∀xs,gg K H a xs->xs[i]?=some x,fun i H=>∃xs,gg K H a xs/\xs.length<=i⟩
noncomputable def IB (K:Kd) (a:Addr):It:=
 ⟨fun i H=>∃xs x,ka K H a xs/\xs[i]?=some x,fun i H x H'=>H'=H/\∀xs,ka K H a xs->xs[i]?=some x,fun i H=>∃xs,ka K H a xs/\xs.length<=i⟩
noncomputable def Hv (lo:Int) (n:Nat):It:=⟨fun i _=>i<n,fun i H x H'=>H'=H/\x=.int (lo+i),fun i _=>n<=i⟩
theorem zA {P:Program} {w:World} {K:Kd} {tg:Expr} (a it:Addr):Turn P w K tg (Ji K a) [it] it (fun i h=>h.IsListIter it a i) where
 mem:=by simp
 obj:=fun i h st b hb=>by
  have e:b=it:=by simpa using hb
  subst e
  obtain ⟨o,e,c,d⟩:=st
  exact ⟨o,e,fun v z=>by rw [d] at z; cases z⟩
 keep:=fun i h h' st k=>st.at fun o e=>k it 0x4 o e
 item:=by
  intro X hP hw hK hc i pins s σ H E I hf st hg
  subst hP hw hK
  obtain ⟨xs,x,hq,hx⟩:=hg
  obtain ⟨its,rv,p,hz⟩:=I.list hq
  obtain ⟨u,hu,ru⟩:=rv.get hx
  obtain ⟨f0,f1,f2,f3,f4,f5⟩:=hf it 0x4
  refine wpAny_pyNext_list_item st p.isList (x:=u) (by simpa using hu) fun h' st' sb=>?_
  have I1:Inv X pins σ H { s with heap:=h' }:=I.turned (t':=s.toks) (fun b o hb e=>(sb.2 b hb).trans e) f0 f1 f3 f4 f5
  obtain ⟨o,e,c,d⟩:=id st'
  exact ⟨u,rfl,Cb (s:={ s with heap:=h' }) e c d 0x3 ⟨x,H,I1,ru,⟨rfl,fun ys hy=>by rw [I.list_inj hy hq]; exact hx⟩,st',fun b hb=>(hf b hb).1⟩⟩
 done:=by
  intro X hP hw hK hc i pins s σ H E I hf st hg
  subst hP hw hK
  obtain ⟨xs,hq,hx⟩:=hg
  obtain ⟨its,rv,p,hz⟩:=I.list hq
  obtain ⟨f0,f1,f2,f3,f4,f5⟩:=hf it 0x4
  have hl:=rv.length
  exact wpAny_pyNext_list_end (I.ok.hd hc) st p.isList (by simp; lia) fun h' eb=>⟨rfl,I.turned (t':=s.toks) (fun b o hb e=>eb b o hb e) f0 f1 f3 f4 f5⟩
 self:=fun _ _ _ _ _ st h=>wpAny_pyIter_listiter st h
theorem wG {P:Program} {w:World} {K:Kd} {tg:Expr} (a it:Addr):Turn P w K tg (IB K a) [it] it (fun i h=>h.IsTupleIter it a i) where
 mem:=by simp
 obj:=fun i h st b hb=>by
  have e:b=it:=by simpa using hb
  subst e
  obtain ⟨o,e,c,d⟩:=st
  exact ⟨o,e,fun v z=>by rw [d] at z; cases z⟩
 keep:=fun i h h' st k=>st.at fun o e=>k it 0x4 o e
 item:=by
  intro X hP hw hK hc i pins s σ H E I hf st hg
  subst hP hw hK
  obtain ⟨xs,x,hq,hx⟩:=hg
  obtain ⟨its,rv,p,hz⟩:=I.tuple hq
  obtain ⟨u,hu,ru⟩:=rv.get hx
  obtain ⟨f0,f1,f2,f3,f4,f5⟩:=hf it 0x4
  refine wpAny_pyNext_tuple_item st (show s.heap.IsTuple a its.toArray from p) (x:=u) (by simpa using hu) fun h' st' sb=>?_
  have I1:Inv X pins σ H { s with heap:=h' }:=I.turned (t':=s.toks) (fun b o hb e=>(sb.2 b hb).trans e) f0 f1 f3 f4 f5
  obtain ⟨o,e,c,d⟩:=id st'
  exact ⟨u,rfl,Cb (s:={ s with heap:=h' }) e c d 0x3 ⟨x,H,I1,ru,⟨rfl,fun ys hy=>by rw [I.tuple_inj hy hq]; exact hx⟩,st',fun b hb=>(hf b hb).1⟩⟩
 done:=by
  intro X hP hw hK hc i pins s σ H E I hf st hg
  subst hP hw hK
  obtain ⟨xs,hq,hx⟩:=hg
  obtain ⟨its,rv,p,hz⟩:=I.tuple hq
  obtain ⟨f0,f1,f2,f3,f4,f5⟩:=hf it 0x4
  have hl:=rv.length
  exact wpAny_pyNext_tuple_end (I.ok.hd hc) st (show s.heap.IsTuple a its.toArray from p) (by simp; lia) fun h' eb=>⟨rfl,I.turned (t':=s.toks) (fun b o hb e=>eb b o hb e) f0 f1 f3 f4 f5⟩
 self:=fun _ _ _ _ _ st h=>wpAny_pyIter_tupleiter st h
theorem vz {P:Program} {w:World} {K:Kd} {tg:Expr} (it:Addr) (lo:Int) (n:Nat):Turn P w K tg (Hv lo n) [it] it (fun i h=>IsRangeIter h it (lo+(i:Nat)*1) ((n:Int)-(i:Nat)) 1) where
 mem:=by simp
 obj:=fun i h st b hb=>by
  have e:b=it:=by simpa using hb
  subst e
  exact ⟨_,st,fun v z=>by
   have z':Data.fields _=Data.cell v:=z
   cases z'⟩
 keep:=fun i h h' st k=>k it 0x4 _ st
 item:=by
  intro X hP hw hK hc i pins s σ H E I hf st hg
  subst hP hw hK
  obtain ⟨f0,f1,f2,f3,f4,f5⟩:=hf it 0x4
  have W:=Walks.range (prog:=X.prog) (w:=X.w) (I.ok.hd hc) it lo 1 n
  refine W.item i s _ _ hg st fun v h' tk hv st' kk=>?_
  obtain ⟨t,rfl⟩:=hv
  have I1:Inv X pins σ H { s with heap:=h',toks:=tk }:=I.turned (fun b o hb e=>kk b o (by simpa using hb) e) f0 f1 f3 f4 f5
  refine ⟨_,rfl,Cb (s:={ s with heap:=h',toks:=tk }) (n:= "range_iterator") st' rfl rfl 0x3 ⟨.int (lo+i),H,I1,⟨t,?_⟩,⟨rfl,rfl⟩,st',fun b hb=>(hf b hb).1⟩⟩
  rw [Int.mul_one]
 done:=by
  intro X hP hw hK hc i pins s σ H E I hf st hg
  subst hP hw hK
  obtain ⟨f0,f1,f2,f3,f4,f5⟩:=hf it 0x4
  exact wpAny_pyNext_range_end (I.ok.hd hc) st (by have:n<=i:=hg; lia) fun h' eb=>⟨rfl,I.turned (t':=s.toks) (fun b o hb e=>eb b o hb e) f0 f1 f3 f4 f5⟩
 self:=fun _ _ _ _ _ st h=>wpAny_pyIter_rangeiter st h
section
variable {X:Cx} {tg:Expr}
noncomputable def G5 (K:Kd) (tl:TE):TI:=fun σ H R=>tl σ H fun x H1=>∃a,x=.ref a/\(∃xs,gg K H1 a xs)/\R (Ji K a) H1
noncomputable def Jb (K:Kd) (tl:TE):TI:=fun σ H R=>tl σ H fun x H1=>∃a,x=.ref a/\(∃xs,ka K H1 a xs)/\R (IB K a) H1
theorem DC {l:Expr} {tl:TE} (hl:PE X l tl):PI X tg l (G5 X.K tl):=by
 intro pins s σ H R I h
 refine bS (hl pins s σ H _ I h) fun v s1 ⟨x,H1,I1,r1,q1⟩=>?_
 obtain ⟨a,e,⟨xs,hq⟩,q⟩:=q1
 subst e
 cases r1
 obtain ⟨its,rv,p,hz⟩:=I1.list hq
 refine wpAny_pyIter_list p.isList ?_
 refine ⟨s1.heap.objs.size,[s1.heap.objs.size],_,_,H1,rfl,I1.kept (t':=s1.toks) fun b o e=>J0 _ e,zA a _,⟨_,Heap.get?_push_size _ rfl,rfl,rfl⟩,fun b hb=>?_,q⟩
 have e:b=s1.heap.objs.size:=by simpa using hb
 subst e
 exact I1.fpOk (J5 _) (I1.hok.fresh (J5 _))
theorem FR {l:Expr} {tl:TE} (hl:PE X l tl):PI X tg l (Jb X.K tl):=by
 intro pins s σ H R I h
 refine bS (hl pins s σ H _ I h) fun v s1 ⟨x,H1,I1,r1,q1⟩=>?_
 obtain ⟨a,e,⟨xs,hq⟩,q⟩:=q1
 subst e
 cases r1
 obtain ⟨its,rv,p,hz⟩:=I1.tuple hq
 refine wpAny_pyIter_tuple (show s1.heap.IsTuple a its.toArray from p) ?_
 refine ⟨s1.heap.objs.size,[s1.heap.objs.size],_,_,H1,rfl,I1.kept (t':=s1.toks) fun b o e=>J0 _ e,wG a _,⟨_,Heap.get?_push_size _ rfl,rfl,rfl⟩,fun b hb=>?_,q⟩
 have e:b=s1.heap.objs.size:=by simpa using hb
 subst e
 exact I1.fpOk (J5 _) (I1.hok.fresh (J5 _))
theorem vn {pins:List (Addr×Obj)} {σ:St} {H:Hp} {s:Shared} {R:It->Hp->Prop} {E:Value->Shared->Prop} {lo hi:Int} {t u v:Tok} {tk:Nat} (I:Inv X pins σ H s) (h1:-(2 ^ 62)<=lo) (h2:lo<2 ^ 62) (h3:-(2 ^ 62)<=hi) (h4:hi<2 ^ 62)
  (q:R (Hv lo (hi-lo).toNat) H):wpAny (model X.prog X.w) X.A (pyIter (.ref s.heap.objs.size)) (Jx X pins σ tg R) E { s with heap:=s.heap.push { cls:=.type "range",data:=.fields #[.int lo t,.int hi u,.int 1 v] },toks:=tk }:=by
 refine wpAny_pyIter_range (IsRange.new ..) (small_one h1 h2 h3 h4) ?_
 have I1:Inv X pins σ H { s with heap:=s.heap.push { cls:=.type "range",data:=.fields #[.int lo t,.int hi u,.int 1 v] },toks:=tk }:=I.kept fun b o e=>J0 _ e
 refine ⟨(s.heap.push { cls:=.type "range",data:=.fields #[.int lo t,.int hi u,.int 1 v] }).objs.size,[(s.heap.push { cls:=.type "range",data:=.fields #[.int lo t,.int hi u,.int 1 v] }).objs.size],_,_,H,rfl,
  I1.kept (t':=tk) fun b o e=>J0 _ e,vz _ lo (hi-lo).toNat,?_,fun b hb=>?_,q⟩
 ·have e1:lo+((0:Nat):Int)*1=lo:=by simp
  have e2:(((hi-lo).toNat:Nat):Int)-((0:Nat):Int)=Builtin.Range.rangeSize lo hi 1:=by rw [rangeSize_one]; split <;> lia
  show IsRangeIter _ _ (lo+((0:Nat):Int)*1) ((((hi-lo).toNat:Nat):Int)-((0:Nat):Int)) 1
  rw [e1,e2]
  exact Heap.get?_push_size _ rfl
 ·have e:b=(s.heap.push { cls:=.type "range",data:=.fields #[.int lo t,.int hi u,.int 1 v] }).objs.size:=by simpa using hb
  subst e
  exact I1.fpOk (J5 _) (I1.hok.fresh (J5 _))
noncomputable def Hy (ta:TA):TI:=fun σ H R=>ta σ H fun vs H1=>∃j:Int,vs=[.int j]/\-(2 ^ 62)<=j/\j<2 ^ 62/\R (Hv 0 j.toNat) H1
noncomputable def G4 (ta:TA):TI:=fun σ H R=>ta σ H fun vs H1=>∃i j:Int,vs=[.int i,.int j]/\(-(2 ^ 62)<=i/\i<2 ^ 62/\-(2 ^ 62)<=j/\j<2 ^ 62)/\R (Hv i (j-i).toNat) H1
theorem zc {a:Expr} {ta:TA} {p pos:Pos} (hg:Gl X "range") (hm:X.mg "range" = none) (ha:PA X [a] ta) (hs:starEach [a] X.env=[(false,eval a X.env)]:=by rfl):PI X tg (.Call (.Name "range" p) [a] [] pos) (Hy ta):=by
 intro pins s σ H R I h
 refine Call_ (sE I hg hm boot_range (PyProof.Rows.callWith_type1 (bS (ha pos pins s σ H _ I h) fun us s1 ⟨vs,H1,I1,r1,q1⟩=>?_) hs rfl))
 obtain ⟨j,e,q1,q2,q⟩:=q1
 subst e
 cases r1 with
 |cons r rr=>
  cases rr
  obtain ⟨t,rfl⟩:=r
  exact call_range_1 (vn I1 0x1 0x1 q1 q2 (by simpa using q))
theorem zi {a b:Expr} {ta:TA} {p pos:Pos} (hg:Gl X "range") (hm:X.mg "range" = none) (ha:PA X [a,b] ta) (hs:starEach [a,b] X.env=[(false,eval a X.env),(false,eval b X.env)]:=by rfl) (hs2:starEach [b] X.env=[(false,eval b X.env)]:=by rfl) :
  PI X tg (.Call (.Name "range" p) [a,b] [] pos) (G4 ta):=by
 intro pins s σ H R I h
 refine Call_ (sE I hg hm boot_range (PyProof.Rows.callWith_type1 (bS (ha pos pins s σ H _ I h) fun us s1 ⟨vs,H1,I1,r1,q1⟩=>?_) (by rw [hs,hs2]) (by rw [hs2]; rfl)))
 obtain ⟨i,j,e,⟨q1,q2,q3,q4⟩,q⟩:=q1
 subst e
 cases r1 with
 |cons r rr=>
  cases rr with
  |cons r' rr=>
   cases rr
   obtain ⟨t,rfl⟩:=r
   obtain ⟨t',rfl⟩:=r'
   exact call_range_2 (vn I1 q1 q2 q3 q4 q)
noncomputable def IG (wi:TI) (g:TG) (tb:TS):TS:=fun D σ H=>wi σ H fun J H1=>∃W:Nat->Nat->St->Hp->Prop,(∃m,W 0 m σ H1)/\∀i m σ H,W i m σ H ->
 (J.stop i H/\D.nx σ H)\/(J.go i H/\∃N:St->Hp->Prop,(∀σ' H',N σ' H'->∃m',m'<m/\W (i+1) m' σ' H')/\∀x H',J.yld i H x H'->g x σ H' fun σ2 H2=>tb { D with nx:=N,ct:=N,bk:=D.nx } σ2 H2)
noncomputable def mz (fp:List Addr) (h:Heap):List (Addr×Obj):=fp.filterMap fun b=>(h.get? b).map fun o=>(b,o)
theorem iR {fp:List Addr} {h:Heap} {b:Addr} {o:Obj} (hb:b∈fp) (e:h.get? b=some o):(b,o)∈mz fp h:=List.mem_filterMap.mpr ⟨b,hb,by rw [e]; rfl⟩
theorem yN {fp:List Addr} {h:Heap} {p:Addr×Obj} (hp:p∈mz fp h):p.1∈fp/\h.get? p.1=some p.2:=by
 obtain ⟨b,hb,e⟩:=List.mem_filterMap.mp hp
 cases q:h.get? b with
 |none=>rw [q] at e; cases e
 |some o=>
  rw [q] at e
  have e':(b,o)=p:=Option.some.inj e
  subst e'
  exact ⟨hb,q⟩
theorem Inv.pinned {pins:List (Addr×Obj)} {σ:St} {H:Hp} {s:Shared} {fp:List Addr} (I:Inv X pins σ H s) (hf:∀b∈fp,nS X pins H b) (ho:∀b∈fp,∃o,s.heap.get? b=some o/\∀v,o.data≠.cell v):Inv X (pins++mz fp s.heap) σ H s:=
 I.pins_of fun p hp=>(List.mem_append.mp hp).elim (fun z=>I.pin p (J2 _ z)) fun z=>by
  obtain ⟨hb,e⟩:=yN z
  obtain ⟨f0,f1,f2,_⟩:=hf p.1 hb
  obtain ⟨o,e',d⟩:=ho p.1 hb
  rw [e] at e'; cases e'
  exact ⟨e,f0,f1,f2,d⟩
theorem Inv.unpinned {pins pl:List (Addr×Obj)} {σ:St} {H:Hp} {s:Shared} (I:Inv X (pins++pl) σ H s):Inv X pins σ H s:=I.pins_of fun p hp=>I.pin p (J2 _ (J3 _ hp))
theorem wx {iter:Expr} {body:List Stmt} {wi:TI} {g:TG} {tb:TS} {pos:Pos} (hp:PassesOwn (model X.prog X.w) X.A X.env X.xe) (hc:X.calm=true) (hi:PI X tg iter wi) (hg:PG X tg g) (hb:qy X body tb)
  (hs:∀x,foldedSetIterable iter X.env x=pure x:=by intro _; rfl):PS X (.For tg iter body [] pos) (IG wi g tb):=by
 intro pins s σ H D I h
 refine wpAny_For (bS (hi pins s σ H _ I h) fun v s1 h1=>bS h1 fun itv s2 h2=>?_) hs
 obtain ⟨it,fp,tn,J,H2,e,I2,T,st2,f2,W,⟨m0,w0⟩,turn⟩:=h2
 subst e
 have stat:∀{H':Hp},(∀b∈fp,H' b=none)->∀b∈fp,nS X pins H' b:=fun hn b hb=>⟨hn b hb,(f2 b hb).2⟩
 refine codeAny_forLoop_any (fun n s'=>∃i σ' H',Inv X pins σ' H' s'/\tn i s'.heap/\(∀b∈fp,H' b=none)/\W i n σ' H') ?_ m0 ⟨0,σ,H2,I2,st2,fun b hb=>(f2 b hb).1,w0⟩
 rintro n s3 ⟨i,σ3,H3,I3,st3,fr3,w3⟩
 rcases turn i n σ3 H3 w3 with ⟨stop,qn⟩|⟨go,N,hN,step⟩
 ·refine wpAny_passesOwn hp (bS (T.done X rfl rfl rfl hc i pins s3 σ3 H3 X.xe I3 (stat fr3) st3 stop) fun r s4 ⟨hr,I4⟩=>?_)
  subst hr
  exact wpAny_execs_nil ⟨σ3,H3,I4,qn⟩
 ·refine wpAny_passesOwn hp (bS (T.item X rfl rfl rfl hc i pins s3 σ3 H3 X.xe I3 (stat fr3) st3 go) fun r s4 ⟨u,hr,h4⟩=>?_)
  subst hr
  refine wpAny_passesOwn hp (bS h4 fun _ s5 ⟨x,H5,I5,r5,y5,st5,fr5⟩=>?_)
  have I5':=I5.pinned (stat fr5) (T.obj _ _ st5)
  refine wpAny_passesOwn hp (bS (hg _ s5 σ3 H5 x u _ I5' r5 (step x H5 y5)) fun _ s6 ⟨σ6,H6,I6,q6⟩=>?_)
  refine wpAny_passesOwn hp (bS (hb _ s6 σ6 H6 _ I6 q6) fun f s7 q7=>?_)
  have again:∀{σ7:St} {H7:Hp},Inv X (pins++mz fp s5.heap) σ7 H7 s7->N σ7 H7->∃m,m<n/\∃i σ' H',Inv X pins σ' H' s7/\tn i s7.heap/\(∀b∈fp,H' b=none)/\W i m σ' H':=fun {σ7 H7} I7 n7=>by
   obtain ⟨m',hm,w7⟩:=hN σ7 H7 n7
   refine ⟨m',hm,i+1,σ7,H7,I7.unpinned,T.keep _ _ _ st5 fun b hb o e=>(I7.pin (b,o) (J2 _ (J2 _ (iR hb e)))).1,fun b hb=>?_,w7⟩
   obtain ⟨o,e,d⟩:=T.obj _ _ st5 b hb
   exact (I7.pin (b,o) (J2 _ (J2 _ (iR hb e)))).2.1
  cases f with
  |next=>obtain ⟨σ7,H7,I7,n7⟩:=q7; exact again I7 n7
  |cont=>obtain ⟨σ7,H7,I7,n7⟩:=q7; exact again I7 n7
  |brk=>obtain ⟨σ7,H7,I7,q7⟩:=q7; exact ⟨σ7,H7,I7.unpinned,q7⟩
  |ret v=>obtain ⟨x7,σ7,H7,I7,r7,q7⟩:=q7; exact ⟨x7,σ7,H7,I7.unpinned,r7,q7⟩
end
noncomputable abbrev R2:=V->V->Hp->VK->Prop
noncomputable def rB (X:Cx) (f:Value->Value->Sem Value) (r:R2):Prop:=
 ∀(pins:List (Addr×Obj)) (s:Shared) (σ:St) (H:Hp) (x y:V) (v u:Value) (Q:VK),Inv X pins σ H s->br x v->br y u->r x y H Q ->
  wpAny (model X.prog X.w) X.A (f v u) (EP X pins σ Q) X.xe s
noncomputable def l7 (X:Cx) (f:Value) (r:List V->Hp->VK->Prop):Prop:=
 ∀(pins:List (Addr×Obj)) (s:Shared) (σ:St) (H:Hp) (xs:List V) (us:List Value) (Q:VK),Inv X pins σ H s->aQ xs us->r xs H Q ->
  wpAny (model X.prog X.w) X.A (call f us) (EP X pins σ Q) X.xe s
noncomputable def IM (X:Cx) (r:V->Hp->(Bool->Hp->Prop)->Prop):Prop:=
 ∀(pins:List (Addr×Obj)) (s:Shared) (σ:St) (H:Hp) (x:V) (v:Value) (Q:Bool->Hp->Prop),Inv X pins σ H s->br x v->r x H Q ->
  wpAny (model X.prog X.w) X.A (truthy v) (TP X pins σ Q) X.xe s
noncomputable def Jp (r:R2) (ta tb:TE):TE:=fun σ H Q=>ta σ H fun x H1=>tb σ H1 fun y H2=>r x y H2 Q
noncomputable def rI (C:Int->Int->Prop) (g:Int->Int->V):R2:=fun x y H Q=>∃i j,x=.int i/\y=.int j/\C i j/\Q (g i j) H
noncomputable def DA (g:Int->Int->V):R2:=fun x y H Q=>∃i j,x=.int i/\y=.int j/\Q (g i j) H
section
variable {X:Cx} {a b c:Expr} {ta tb tc:TE} {pos:Pos}
theorem IQ (ha:PE X a ta) (hb:PE X b tb) {pins:List (Addr×Obj)} {s:Shared} {σ:St} {H:Hp} {R:V->V->Hp->Prop} (I:Inv X pins σ H s)
  (h:ta σ H fun x H1=>tb σ H1 fun y H2=>R x y H2) {Q:Value->Shared->Prop} {f:Value->Value->Sem Value}
  (hf:∀v u s2 x y H2,Inv X pins σ H2 s2->br x v->br y u->R x y H2->wpAny (model X.prog X.w) X.A (f v u) Q X.xe s2) :
  wpAny (model X.prog X.w) X.A (eval a X.env) (fun v s₁=>wpAny (model X.prog X.w) X.A (eval b X.env) (fun u s₂=>wpAny (model X.prog X.w) X.A (f v u) Q X.xe s₂) X.xe s₁) X.xe s:=by
 refine bS (ha pins s σ H _ I h) fun v s1 ⟨x,H1,I1,r1,q1⟩=>?_
 refine bS (hb pins s1 σ H1 _ I1 q1) fun u s2 ⟨y,H2,I2,r2,q2⟩=>?_
 exact hf v u s2 x y H2 I2 r1 r2 q2
theorem IL {f:Value->Value->Sem Value} {C:Int->Int->Prop} {g:Int->Int->Int}
  (rule:∀(i j:Int) (t u:Tok) (s:Shared) (Q:Value->Shared->Prop) (E:Value->Shared->Prop),C i j->Q (.int (g i j) s.toks) { s with toks:=s.toks+1 }->wpAny (model X.prog X.w) X.A (f (.int i t) (.int j u)) Q E s) :
  rB X f (rI C fun i j=>.int (g i j)):=by
 intro pins s σ H x y v u Q I rx ry h
 obtain ⟨i,j,rfl,rfl,hc,q⟩:=h
 obtain ⟨t,rfl⟩:=rx
 obtain ⟨t',rfl⟩:=ry
 exact rule i j t t' s _ _ hc ⟨.int (g i j),H,I.tok _,⟨_,rfl⟩,q⟩
theorem HB {f:Value->Value->Sem Value} {g:Int->Int->Int}
  (rule:∀(i j:Int) (t u:Tok) (s:Shared) (Q:Value->Shared->Prop) (E:Value->Shared->Prop),Q (.int (g i j) s.toks) { s with toks:=s.toks+1 }->wpAny (model X.prog X.w) X.A (f (.int i t) (.int j u)) Q E s) :
  rB X f (DA fun i j=>.int (g i j)):=by
 intro pins s σ H x y v u Q I rx ry h
 obtain ⟨i,j,rfl,rfl,q⟩:=h
 obtain ⟨t,rfl⟩:=rx
 obtain ⟨t',rfl⟩:=ry
 exact rule i j t t' s _ _ ⟨.int (g i j),H,I.tok _,⟨_,rfl⟩,q⟩
theorem C0 {f:Value->Value->Sem Value} {g:Int->Int->Bool}
  (rule:∀(i j:Int) (t u:Tok) (s:Shared) (Q:Value->Shared->Prop) (E:Value->Shared->Prop),Q (.bool (g i j)) s->wpAny (model X.prog X.w) X.A (f (.int i t) (.int j u)) Q E s) :
  rB X f (DA fun i j=>.bl (g i j)):=by
 intro pins s σ H x y v u Q I rx ry h
 obtain ⟨i,j,rfl,rfl,q⟩:=h
 obtain ⟨t,rfl⟩:=rx
 obtain ⟨t',rfl⟩:=ry
 exact rule i j t t' s _ _ ⟨.bl (g i j),H,I,rfl,q⟩
noncomputable def HU (i j:Int):Prop:=0<j/\j<1073741824
noncomputable def DM (i j:Int):Prop:=(-(2 ^ 64)<i/\i<2 ^ 64)\/(-(2 ^ 64)<j/\j<2 ^ 64)
theorem DM.ok {i j:Int} (h:DM i j):IntMulOk i j:=by
 rcases h with ⟨h1,h2⟩|⟨h1,h2⟩
 ·exact .of_left (intBits_le_64 h1 h2)
 ·exact .of_right (intBits_le_64 h1 h2)
theorem GP:rB X (binaryOp .Add) (DA fun i j=>.int (i+j)):=HB fun _ _ _ _ _ _ _ q=>add_int q
theorem Gf:rB X (binaryOp .Sub) (DA fun i j=>.int (i-j)):=HB fun _ _ _ _ _ _ _ q=>sub_int q
theorem FU:rB X (binaryOp .Mult) (rI DM fun i j=>.int (i*j)):=IL fun _ _ _ _ _ _ _ hc q=>mul_int q hc.ok
theorem DP:rB X (binaryOp .FloorDiv) (rI HU fun i j=>.int (i / j)):=IL fun i j _ _ _ _ _ hc q=>by
 have h1:(0:Int)<j:=hc.1
 have h2:j<1073741824:=hc.2
 exact floordiv_int 0x1 (by rw [Int.fdiv_eq_ediv_of_nonneg i 0x1]; exact q) (.inl (PyProof.noPylong_small 0x1))
theorem GA:rB X (binaryOp .Mod) (rI (fun _ j=>0<j) fun i j=>.int (i % j)):=IL fun i j _ _ _ _ _ hc q=>by
 have h1:(0:Int)<j:=hc
 exact mod_int' 0x1 (by rw [Int.fmod_eq_emod_of_nonneg i 0x1]; exact q)
end
section
variable {X:Cx} {a b c:Expr} {ta tb tc:TE} {pos:Pos}
theorem Ic:rB X (compareOp .Lt) (DA fun i j=>.bl (decide (i<j))):=C0 fun _ _ _ _ _ _ _ q=>lt_int q
theorem Ie:rB X (compareOp .LtE) (DA fun i j=>.bl (decide (i<=j))):=C0 fun _ _ _ _ _ _ _ q=>le_int q
theorem Hk:rB X (compareOp .Gt) (DA fun i j=>.bl (decide (j<i))):=C0 fun _ _ _ _ _ _ _ q=>gt_int q
theorem Hu:rB X (compareOp .GtE) (DA fun i j=>.bl (decide (j<=i))):=C0 fun _ _ _ _ _ _ _ q=>ge_int q
theorem wt (b:Expr) {op:CmpOp} (h:op≠.In:=by decide) (h2:op≠.NotIn:=by decide):behindInMarks op b=false:=by
 have e1:(op==CmpOp.In)=false:=by cases op <;> first|rfl|exact absurd rfl h
 have e2:(op==CmpOp.NotIn)=false:=by cases op <;> first|rfl|exact absurd rfl h2
 cases b <;> simp [behindInMarks,e1,e2]
noncomputable def HY (t:TE):TT:=fun σ H Q=>t σ H fun x H'=>∃k,x=.bl k/\Q k H'
theorem DU {op:CmpOp} {r:R2} (ho:rB X (compareOp op) r) (ha:PE X a ta) (hb:PE X b tb) (hm:behindInMarks op b=false):PT X (.Compare a [op] [b] pos) (HY (Jp r ta tb)):=by
 intro pins s σ H Q I h
 refine wpAny_isTrue_Compare1 (bS (ha pins s σ H _ I h) fun v s1 ⟨x,H1,I1,r1,q1⟩=>bS (hb pins s1 σ H1 _ I1 q1) fun u s2 ⟨y,H2,I2,r2,q2⟩=>
  bS (ho pins s2 σ H2 x y v u _ I2 r1 r2 q2) fun c s3 ⟨z,H3,I3,r3,k,e,q3⟩=>?_) hm
 subst e
 cases r3
 exact wpAny_truthy_bool ⟨H3,I3,q3⟩
noncomputable def He (K:Kd) (x:V) (H:Hp) (k:Bool):Prop:=
 match x with
 |.non=>k=false
 |.bl b=>k=b
 |.int i=>k=(i != 0)
 |.str y=>y.length<=sizeLine/\k=((y.length:Int) != 0)
 |.byt y=>y.size<=sizeLine/\k=((y.size:Int) != 0)
 |.ref p=>(∃xs,gg K H p xs/\k=!xs.isEmpty)\/(∃xs,ka K H p xs/\k=!xs.isEmpty)\/∃kvs,H p=some (.dK kvs)/\k=!kvs.isEmpty
 |_=>False
theorem wO {κ:Type} {kvs:List (κ×V)} {vs:List (κ×Value)} (r:KV kvs vs):(!vs.isEmpty)=!kvs.isEmpty:=by
 cases r <;> rfl
theorem pB {xs:List V} {its:List Value} (r:aQ xs its):(!its.toArray.isEmpty)=!xs.isEmpty:=by
 cases r <;> simp
theorem oA:(sizeLine:Nat)<2 ^ 63:=by rw [sizeLine_eq]; decide
theorem GF:IM X (fun x H Q=>∃k,He X.K x H k/\Q k H):=by
 intro pins s σ H x v Q I rx h
 obtain ⟨k,e,q⟩:=h
 have hl:=oA
 have hs:sizeLine=16777216:=sizeLine_eq
 cases x with
 |non=>
  cases rx
  have e':k=false:=e
  subst e'
  exact truthy_none ⟨H,I,q⟩
 |bl b=>
  cases rx
  have e':k=b:=e
  subst e'
  exact wpAny_truthy_bool ⟨H,I,q⟩
 |int i=>
  obtain ⟨t,rfl⟩:=rx
  have e':k=(i != 0):=e
  subst e'
  exact PySem.P.truthy_int ⟨H,I,q⟩
 |str y=>
  obtain ⟨t,rfl⟩:=rx
  obtain ⟨hy,e'⟩:y.length<=sizeLine/\k=((y.length:Int) != 0):=e
  subst e'
  exact PySem.P.truthy_str 0x1 ⟨H,I.tok _,q⟩
 |byt y=>
  obtain ⟨t,rfl⟩:=rx
  obtain ⟨hy,e'⟩:y.size<=sizeLine/\k=((y.size:Int) != 0):=e
  subst e'
  exact PySem.W.truthy_bytes 0x1 ⟨H,I.tok _,q⟩
 |ref p=>
  cases rx
  have e':(∃xs,gg X.K H p xs/\k=!xs.isEmpty)\/(∃xs,ka X.K H p xs/\k=!xs.isEmpty)\/∃kvs,H p=some (.dK kvs)/\k=!kvs.isEmpty:=e
  rcases e' with ⟨xs,hx,e'⟩|⟨xs,hx,e'⟩|⟨kvs,hx,e'⟩
  ·subst e'
   obtain ⟨its,r,pl,hz⟩:=I.list hx
   have hlen:=r.length
   exact wpAny_truthy_list pl.isList (by simp only [List.size_toArray]; lia) ⟨H,I.tok _,by rw [pB r]; exact q⟩
  ·subst e'
   obtain ⟨its,r,pl,hz⟩:=I.tuple hx
   have hlen:=r.length
   exact truthy_tuple pl (by simp only [List.size_toArray]; lia) ⟨H,I.tok _,by rw [pB r]; exact q⟩
  ·subst e'
   obtain ⟨hz,hS,vs,r,m⟩:kvs.length<=sizeLine/\(p==sysModules)=false/\∃vs,KV kvs vs/\s.heap.DictOf (tf X.prog X.w) p vs:=I.hok p _ hx
   have hlen:kvs.length=vs.length:=Paired.length r
   exact wpAny_truthy_dict hS m 0x1 ⟨H,I.tok _,by rw [wO r]; exact q⟩
 |_=>exact (show False from e).elim
theorem B5 (ha:PE X a ta) (he:∀whole,isTrue a X.env whole=(do let v <-whole; standAt a.pos; holding [v] (truthy v))) :
  PT X a (fun σ H Q=>ta σ H fun x H'=>∃k,He X.K x H' k/\Q k H'):=by
 intro pins s σ H Q I h
 exact isTrue_plain (bS (ha pins s σ H _ I h) fun v s1 ⟨x,H1,I1,r1,q1⟩=>GF pins s1 σ H1 x v Q I1 r1 q1) (he _)
theorem qf {x:V} {us:List Value} (r:aQ [x] us):∃u,us=[u]/\br x u:=by
 cases r with
 |cons r1 r2=>cases r2; exact ⟨_,rfl,r1⟩
theorem G7 {x y:V} {us:List Value} (r:aQ [x,y] us):∃u w',us=[u,w']/\br x u/\br y w':=by
 cases r with
 |cons r1 r2=>
  cases r2 with
  |cons r3 r4=>cases r4; exact ⟨_,_,rfl,r1,r3⟩
theorem zv (hc:X.calm=true):l7 X (.builtin "min") (fun xs H Q=>∃i j,xs=[.int i,.int j]/\Q (.int (if j<i then j else i)) H):=by
 intro pins s σ H xs us Q I r h
 obtain ⟨i,j,rfl,q⟩:=h
 obtain ⟨u,w',rfl,⟨t,rfl⟩,⟨t',rfl⟩⟩:=G7 r
 refine min_two_ints (I.ok.hd hc) fun h' tk k=>⟨_,H,I.kept k,?_,q⟩
 by_cases hj:j<i
 ·rw [if_pos hj,if_pos hj]; exact ⟨_,rfl⟩
 ·rw [if_neg hj,if_neg hj]; exact ⟨_,rfl⟩
theorem zp:l7 X (.type "int") (fun xs H Q=>(∃i,xs=[.int i]/\Q (.int i) H)\/∃k,xs=[.bl k]/\Q (.int (if k then 1 else 0)) H):=by
 intro pins s σ H xs us Q I r h
 rcases h with ⟨i,rfl,q⟩|⟨k,rfl,q⟩
 ·obtain ⟨u,rfl,t,rfl⟩:=qf r
  exact call_int_int ⟨.int i,H,I,⟨_,rfl⟩,q⟩
 ·obtain ⟨u,rfl,r1⟩:=qf r
  cases r1
  exact call_int_bool ⟨.int (if k then 1 else 0),H,I.tok _,⟨_,rfl⟩,q⟩
end
structure ObjM (h:Heap) (x dx C:Addr) (mA:Str->Option Value):Prop where
 obj:h.get? x=some (PySem.W.instObj C dx)
 ns:h.Ns1 dx mA
 ne:dx≠x
theorem zm {h:Heap} {dx:Addr} {mA:Str->Option Value} (n:h.Ns1 dx mA):∃od,h.get? dx=some od/\∀name,PySem.W.lookIn name od=some (mA name):=by
 obtain ⟨o,es,ep,ho,hd,hk,_,hm⟩:=n
 refine ⟨o,ho,fun name=>?_⟩
 have e:=hm name
 unfold nsFind findBy at e
 rw [<-Array.find?_toList] at e
 unfold PySem.W.lookIn
 rw [hd]
 dsimp only
 split
 ·rename_i y q
  rw [q] at e
  exact congrArg some e
 ·rename_i q
  rw [q] at e
  have a:es.toList.any (·.refKey)=false:=by
   rw [List.any_eq_false]
   intro y hy
   obtain ⟨z,t,hkey⟩:=hk y (Array.mem_toList_iff.mp hy)
   simp [DictEntry.refKey,hkey]
  have a':¬es.toList.any (·.refKey)=true:=by rw [a]; exact Bool.false_ne_true
  rw [if_neg a']
  exact congrArg some e
theorem ObjM.look {h:Heap} {x dx C:Addr} {mA:Str->Option Value} (I:ObjM h x dx C mA):∃od,PySem.W.InstAt h x (PySem.W.instObj C dx) C (some od)/\∀name,PySem.W.lookIn name od=some (mA name):=
 let ⟨od,ho,hl⟩:=zm I.ns
 ⟨od,⟨I.obj,rfl,rfl,ho⟩,hl⟩
section
variable {prog:Program} {w:World} {A:Around} {E:Value->Shared->Prop} {s:Shared} {K:Kd} {x dx C f:Addr} {mA:Str->Option Value} {name:Str} {v:Value}
theorem Dz {expr:Bool} {Q:Value->Shared->Prop} (X:K.In s.heap) (I:ObjM s.heap x dx C mA) (hg:PySem.W.plainGet K C name=true) (hh:PySem.W.hasDictIn K C=true)
  (ha:PySem.W.findIn K (.ref C) name=some none) (hv:mA name=some v) (hv':PySem.W.handedIn v=true) (h:Q v { s with toks:=s.toks+1 }) :
  wpAny (model prog w) A (getAttr (.ref x) name expr) Q E s:=by
 obtain ⟨od,J,hl⟩:=I.look
 exact PySem.W.get_value X J (PySem.W.plainGet_of hg).1 (PySem.W.findObj_own hh ha rfl (by rw [hl,hv])) hv' h
theorem BV {pl:Sem Bool} {Q:Value×List Value->Shared->Prop} (X:K.In s.heap) (I:ObjM s.heap x dx C mA) (hg:PySem.W.plainGet K C name=true)
  (hf:PySem.W.findIn K (.ref C) name=some (some (.ref f))) (ht:PySem.W.isFn K (.ref f)=true) (hv:mA name=none) (h:Q (.ref f,[.ref x]) s) :
  wpAny (model prog w) A (getMethod (.ref x) name pl) Q E s:=by
 obtain ⟨od,J,hl⟩:=I.look
 exact PySem.W.method_fn X J (PySem.W.plainGet_of hg).1 (PySem.W.plainGet_of hg).2 hf (beq_iff_eq.mp ht) (by show (PySem.W.lookIn name od).map (·.isSome)=some false; rw [hl,hv]; rfl) h
theorem Dq {ns:List Str} {Q:Unit->Shared->Prop} (X:K.In s.heap) (I:ObjM s.heap x dx C mA)
  (hs:PySem.W.findIn K (.ref C) "__setattr__" = some (some (.builtin "object.__setattr__"))) (hp:PySem.W.plainOver K C=true) (ht:PySem.W.takerIn K C name=some none) (hh:PySem.W.hasDictIn K C=true)
  (hw:PySem.Within mA ns) (hsz:ns.length<=sizeLine)
  (h:∀h',ObjM h' x dx C (fun y=>if y=name then some v else mA y)->Heap.SameBut dx s.heap h'->Q () { s with heap:=h',toks:=s.toks+2 }) :
  wpAny (model prog w) A (setAttr (.ref x) name v) Q E s:=by
 obtain ⟨od,J,hl⟩:=I.look
 refine PySem.W.set_plain X J hs (PySem.W.osa_open (s:={ s with toks:=s.toks+1 }) (r:=none) X J hp ht fun b=>?_)
 obtain ⟨cd,hc,hd'⟩:=PySem.W.any_some hh
 have hx:s.heap.get? x=some ⟨.ref C,some dx,.plain,#[]⟩:=I.obj
 refine J6 (J7 (J6 (J6 (wpAny_loadPart hx (J6 (PySem.W.Looks.here (s:={ s with toks:=s.toks+1 }) (PySem.W.looks_clsIn X hc) ?_))))))
 rw [hd']
 refine J7 (a:=some dx) (J6 (J7 (J6 ?_)))
 refine wpAny_nsSet1 (s:={ s with toks:=s.toks+1 }) I.ns fun h' hn2 hs2=>?_
 obtain ⟨oD,esD,epD,hoD,hdD,hcD⟩:=hn2.count (PySem.Within.cons name v hw)
 refine J6 (wpAny_lookBehind hoD (by rw [hdD]; exact pastItsLine_dict (Nat.le_trans hcD (by rw [List.length_cons]; lia))) ?_)
 exact J7 (h _ ⟨(hs2.2 _ (Ne.symm I.ne)).trans I.obj,hn2,I.ne⟩ hs2)
theorem Ay {R:Result->Shared->Prop} {vs:List Value} {kw:List (Str×Value)} (X:K.In s.heap) (hm:PySem.W.makesIn K C=true)
  (hi:PySem.W.findIn K (.ref C) "__init__" = some (some (.ref f))) (hf:PySem.W.typeIn K (.ref f)=some (.type "function"))
  (h:codeAny (model prog w) (A.under (.builtin "type.__call__" ⟨.ref C::vs,kw⟩)) (.call (.ref f) ⟨.ref (s.heap.objs.size+1)::vs,kw⟩) (PySem.W.InitBack (s.heap.objs.size+1) R)
   { s with heap:=(s.heap.push PySem.W.emptyDict).push (PySem.W.instObj C s.heap.objs.size) }) :
  codeAny (model prog w) A (.call (.ref C) ⟨vs,kw⟩) R s:=by
 obtain ⟨hh,g,d,t,os⟩:=s
 exact PySem.W.make_core (PySem.W.makes_of X hm) (PySem.W.looks_findIn X hi) (fun self=>PySem.W.bind_fn X self hf) (.inl rfl) h
end
noncomputable def gk (f:Str) (v:V):List (Str×V)->List (Str×V)
 |[]=>[(f,v)]
 |(g,x)::r=>if g=f then (g,v)::r else (g,x)::gk f v r
theorem nB (f g:Str) (v:V):∀fs:List (Str×V),(gk f v fs).lookup g=if g=f then some v else fs.lookup g
 |[]=>by
  show List.lookup g [(f,v)]=_
  by_cases h:g=f
  ·have hb:(g==f)=true:=beq_iff_eq.mpr h
   simp only [List.lookup,hb,if_pos h]
  ·have hb:(g==f)=false:=beq_eq_false_iff_ne.mpr h
   simp only [List.lookup,hb,if_neg h]
 |(k,x)::r=>by
  have ih:=nB f g v r
  rw [show gk f v ((k,x)::r)=(if k=f then (k,v)::r else (k,x)::gk f v r) from rfl]
  by_cases hk:k=f
  ·rw [if_pos hk]
   by_cases h:g=k
   ·have hb:(g==k)=true:=beq_iff_eq.mpr h
    simp only [List.lookup,hb,if_pos (h.trans hk)]
   ·have hb:(g==k)=false:=beq_eq_false_iff_ne.mpr h
    simp only [List.lookup,hb,if_neg (fun e:g=f=>h (e.trans hk.symm))]
  ·rw [if_neg hk]
   by_cases h:g=k
   ·have hb:(g==k)=true:=beq_iff_eq.mpr h
    simp only [List.lookup,hb,if_neg (fun e:g=f=>hk (h.symm.trans e))]
   ·have hb:(g==k)=false:=beq_eq_false_iff_ne.mpr h
    simp only [List.lookup,hb]
    exact ih
theorem mW (f:Str) (v:V):∀fs:List (Str×V),f∈(gk f v fs).map (·.1)/\∀g,g∈fs.map (·.1)->g∈(gk f v fs).map (·.1)
 |[]=>⟨by simp [gk],fun g h=>by simp at h⟩
 |(k,x)::r=>by
  obtain ⟨i1,i2⟩:=mW f v r
  rw [show gk f v ((k,x)::r)=(if k=f then (k,v)::r else (k,x)::gk f v r) from rfl]
  by_cases hk:k=f
  ·rw [if_pos hk]
   subst hk
   exact ⟨0x4,fun g h=>by simpa using h⟩
  ·rw [if_neg hk]
   refine ⟨?_,fun g h=>?_⟩
   ·rw [List.map_cons]
    exact JY _ i1
   ·rw [List.map_cons] at h ⊢
    rcases List.mem_cons.mp h with e|e
    ·exact List.mem_cons.mpr (.inl e)
    ·exact JY _ (i2 g e)
theorem nz (f:Str) (v:V):∀fs:List (Str×V),(gk f v fs).length<=fs.length+1
 |[]=>by simp [gk]
 |(k,x)::r=>by
  have ih:=nz f v r
  rw [show gk f v ((k,x)::r)=(if k=f then (k,v)::r else (k,x)::gk f v r) from rfl]
  by_cases hk:k=f
  ·rw [if_pos hk,List.length_cons,List.length_cons]; lia
  ·rw [if_neg hk,List.length_cons,List.length_cons]; lia
theorem qK.some_of {v:V} {o:Option Value} (r:qK (some v) o):∃u,o=some u/\br v u:=by
 cases o with
 |none=>exact (show False from r).elim
 |some u=>exact ⟨u,rfl,r⟩
theorem qK.none_of {o:Option Value} (r:qK none o):o=none:=by
 cases o with
 |none=>rfl
 |some u=>exact (show False from r).elim
theorem zg {v:V} {u:Value} (r:br v u):PySem.W.handedIn u=true:=by
 cases v with
 |non=>cases (show u=Value.none from r); rfl
 |bl b=>cases (show u=Value.bool b from r); rfl
 |int i=>obtain ⟨t,e⟩:=(show ∃t,u=Value.int i t from r); cases e; rfl
 |str x=>obtain ⟨t,e⟩:=(show ∃t,u=Value.str x t from r); cases e; rfl
 |byt b=>obtain ⟨t,e⟩:=(show ∃t,u=Value.bytes b t from r); cases e; rfl
 |flt b=>obtain ⟨t,e⟩:=(show ∃t,u=Value.float b t from r); cases e; rfl
 |ref a=>cases (show u=Value.ref a from r); rfl
 |ty n=>cases (show u=Value.type n from r); rfl
section
variable {P:Program} {w:World} {H H':Hp} {h h':Heap} {a C dx:Addr} {fs fs':List (Str×V)}
theorem tm (hok:kx P w H h) (e:H a=some (.ins C dx fs)):∃mA,ObjM h a dx C mA/\(∀f,qK (fs.lookup f) (mA f))/\PySem.Within mA (fs.map (·.1))/\fs.length<=1000/\H dx=some (.own a):=by
 obtain ⟨d,z,ne,ob,mA,n,r,q⟩:=(show cu P w H h a (.ins C dx fs) from hok a _ e)
 exact ⟨mA,⟨ob,n,ne⟩,r,q,z,d⟩
end
structure Cls (K:Kd) (C:Addr):Prop where
 pg:PySem.W.plainGet K C Str.empty=true
 hd:PySem.W.hasDictIn K C=true
 po:PySem.W.plainOver K C=true
 sa:PySem.W.findIn K (.ref C) "__setattr__" = some (some (.builtin "object.__setattr__"))
theorem Cls.get {K:Kd} {C:Addr} (c:Cls K C) (f:Str):PySem.W.plainGet K C f=true:=c.pg
noncomputable def dU (K:Kd) (C:Addr) (f:Str):Prop:=PySem.W.findIn K (.ref C) f=some none
theorem dU.taker {K:Kd} {C:Addr} {f:Str} (n:dU K C f):PySem.W.takerIn K C f=some none:=by
 unfold PySem.W.takerIn
 rw [show PySem.W.findIn K (.ref C) f=some none from n]
 rfl
structure Meth (K:Kd) (C:Addr) (m:Str) (f:Addr):Prop where
 at_:PySem.W.findIn K (.ref C) m=some (some (.ref f))
 fn:PySem.W.isFn K (.ref f)=true
 kp:PySem.W.keepIn K (.ref f)=true
section
variable {X:Cx} {pins:List (Addr×Obj)} {σ:St} {H:Hp} {s:Shared} {a C dx:Addr} {fs:List (Str×V)} {f:Str} {v:V} {A:Around} {E:Value->Shared->Prop}
theorem wm {b:Bool} {Q:Value->Shared->Prop} (I:Inv X pins σ H s) (e:H a=some (.ins C dx fs)) (c:Cls X.K C) (n:dU X.K C f) (l:fs.lookup f=some v)
  (h:∀u s',Inv X pins σ H s'->br v u->Q u s'):wpAny (model X.prog X.w) A (getAttr (.ref a) f b) Q E s:=by
 obtain ⟨mA,O,r,_,_,_⟩:=tm I.hok e
 obtain ⟨u,hu,ru⟩:=qK.some_of (v:=v) (o:=mA f) (by rw [<-l]; exact r f)
 exact Dz I.kIn O (c.get f) c.hd n hu (zg ru) (h u _ (I.tok _) ru)
theorem qc {m:Str} {g:Addr} {pl:Sem Bool} {Q:Value×List Value->Shared->Prop} (I:Inv X pins σ H s) (e:H a=some (.ins C dx fs)) (c:Cls X.K C) (k:Meth X.K C m g) (l:fs.lookup m=none)
  (h:Q (.ref g,[.ref a]) s):wpAny (model X.prog X.w) A (getMethod (.ref a) m pl) Q E s:=by
 obtain ⟨mA,O,r,_,_,_⟩:=tm I.hok e
 have hn:mA m=none:=qK.none_of (by rw [<-l]; exact r m)
 exact BV I.kIn O (c.get m) k.at_ k.fn hn h
theorem wj {y:V} {u:Value} {Q:Unit->Shared->Prop} (I:Inv X pins σ H s) (e:H a=some (.ins C dx fs)) (c:Cls X.K C) (n:dU X.K C f) (hl:fs.length<1000) (ry:br y u)
  (h:∀s',Inv X pins σ (upd H a (.ins C dx (gk f y fs))) s'->Q () s'):wpAny (model X.prog X.w) A (setAttr (.ref a) f u) Q E s:=by
 obtain ⟨mA,O,r,wi,_,ho⟩:=tm I.hok e
 have hz:(fs.map (·.1)).length<=sizeLine:=by rw [List.length_map,sizeLine_eq]; lia
 refine Dq I.kIn O c.sa c.po n.taker c.hd wi hz fun h' O' sb=>h _ ?_
 have hd:∃o,h'.get? dx=some o:=let ⟨o,_,_,e',_⟩:=O'.ns; ⟨o,e'⟩
 refine I.write (x:=a) (e:=dx) (by rw [e]; exact True.intro) (.inr ho) (fun b q hb z=>(sb.2 b hb).trans z) hd ?_
 refine ⟨by rw [aA O.ne]; exact ho,?_,O.ne,O'.obj,_,O'.ns,fun g=>?_,fun g hg=>?_⟩
 ·have:=nz f y fs; lia
 ·show qK ((gk f y fs).lookup g) (if g=f then some u else mA g)
  rw [nB]
  by_cases q:g=f
  ·rw [if_pos q,if_pos q]; exact ry
  ·rw [if_neg q,if_neg q]; exact r g
 ·by_cases q:g=f
  ·rw [q]; exact (mW f y fs).1
  ·refine (mW f y fs).2 g (wi g fun z=>hg ?_)
   show (if g=f then some u else mA g)=none
   rw [if_neg q]; exact z
theorem Inv.made (I:Inv X pins σ H s):Inv X pins σ (upd (upd H s.heap.objs.size (.own (s.heap.objs.size+1))) (s.heap.objs.size+1) (.ins C s.heap.objs.size []))
  { s with heap:=(s.heap.push PySem.W.emptyDict).push (PySem.W.instObj C s.heap.objs.size) }:=by
 have e1:(s.heap.push PySem.W.emptyDict).get? s.heap.objs.size=some PySem.W.emptyDict:=Heap.get?_push_size s.heap rfl
 have e2:((s.heap.push PySem.W.emptyDict).push (PySem.W.instObj C s.heap.objs.size)).get? (s.heap.objs.size+1)=some (PySem.W.instObj C s.heap.objs.size):=by
  have:=Heap.get?_push_size (s.heap.push PySem.W.emptyDict) (o:=PySem.W.instObj C s.heap.objs.size) rfl
  rwa [Heap.size_push] at this
 have e3:(s.heap.push PySem.W.emptyDict).Ns s.heap.objs.size (fun _=>none):=⟨PySem.W.emptyDict,#[],_,e1,rfl,(fun e he=>absurd he 0x4),fun _=>rfl⟩
 have I1:=I.laid (a:=s.heap.objs.size) (o:=.own (s.heap.objs.size+1)) (h':=s.heap.push PySem.W.emptyDict) (t':=s.toks) (fun b u q=>J0 _ q) (J5 _) ⟨_,e1⟩
 refine I1.laid (a:=s.heap.objs.size+1) (o:=.ins C s.heap.objs.size []) (t':=s.toks) (fun b u q=>J0 _ q) (Nat.le_of_eq (Heap.size_push _ _)) ?_
 have ne:s.heap.objs.size≠s.heap.objs.size+1:=Nat.ne_of_lt (Nat.lt_succ_self _)
 refine ⟨by rw [aA ne,aN],Nat.zero_le _,ne,e2,fun _=>none,(Heap.Ns1.of_empty e3).at fun o q=>J0 _ q,fun _=>True.intro,fun y hy=>absurd rfl hy⟩
theorem DN {prog:Program} {w:World} {env:Env} {e:Expr} {f:Str} {pos:Pos} {s:Shared} {Q:Value->Shared->Prop} (hb:attributeBase e f env (eval e env)=eval e env)
  (h:wpAny (model prog w) A (eval e env) (fun o s₁=>wpAny (model prog w) A (getAttr o f true) Q E s₁) E s):wpAny (model prog w) A (eval (.Attribute e f pos) env) Q E s:=
 Attribute_any_ h (by rw [arm_eval_Attribute,hb])
end
noncomputable def Ja (K:Kd) (ta:TE) (f:Str):TE:=fun σ H Q=>ta σ H fun x H1=>∃a C dx fs v,x=.ref a/\H1 a=some (.ins C dx fs)/\Cls K C/\dU K C f/\fs.lookup f=some v/\Q v H1
noncomputable def F8 (K:Kd) (ta tv:TE) (f:Str):TS:=fun D σ H=>tv σ H fun y H1=>ta σ H1 fun x H2=>∃a C dx fs,x=.ref a/\H2 a=some (.ins C dx fs)/\Cls K C/\dU K C f/\fs.length<1000 /\
 D.nx σ (upd H2 a (.ins C dx (gk f y fs)))
section
variable {X:Cx} {o e value:Expr} {f:Str} {pos pos' tpos:Pos} {ta tv:TE}
theorem xb (he:PE X e ta) (hb:attributeBase e f X.env (eval e X.env)=eval e X.env):PE X (.Attribute e f pos) (Ja X.K ta f):=by
 intro pins s σ H Q I h
 refine DN hb (bS (he pins s σ H _ I h) fun u s1 ⟨x,H1,I1,rx,a,C,dx,fs,v,ex,ea,c,n,l,q⟩=>?_)
 subst ex
 obtain rfl:u=Value.ref a:=rx
 exact wm I1 ea c n l fun u' s2 I2 ru=>⟨v,H1,I2,ru,q⟩
theorem tO (ha:PE X o ta) (hv:PE X value tv) (hs:swapsWith value (some (.Attribute o f pos')) pos.line X.env=pure false):PS X (.Assign [.Attribute o f pos'] value pos) (F8 X.K ta tv f):=by
 intro pins s σ H D I h
 refine plainObj_wpAny_Assign_Attribute (bS (hv pins s σ H _ I h) fun u s1 ⟨y,H1,I1,ry,q⟩=>bS (ha pins s1 σ H1 _ I1 q) fun ov s2 ⟨x,H2,I2,rx,a,C,dx,fs,ex,ea,c,n,l,q2⟩=>?_) hs
 subst ex
 obtain rfl:ov=Value.ref a:=rx
 exact wj I2 ea c n l ry fun s3 I3=>⟨σ,_,I3,q2⟩
theorem E5 {pl:Sem Bool} {m:Str} {apos:Pos} {args:List Expr} {pins:List (Addr×Obj)} {s:Shared} {σ:St} {H:Hp} {Q:Value->Shared->Prop} {te:TE} (he:PE X e te) (I:Inv X pins σ H s)
  (h:te σ H fun x H1=>∃a C dx fs g,x=.ref a/\H1 a=some (.ins C dx fs)/\Cls X.K C/\Meth X.K C m g/\fs.lookup m=none /\
   ∀s1,Inv X pins σ H1 s1->wpAny (model X.prog X.w) X.A (callWith pos (.ref g) [.ref a] (backTo pos (starEach args X.env)) (backToKw pos (keywordEach [] X.env))) Q X.xe s1)
  (ht:eval (.Call (.Attribute e m apos) args [] pos) X.env=(do
   let ov <-eval e X.env
   standAt apos.atName
   let (f,first) <-holding [ov] (getMethod ov m pl)
   callWith pos f first (backTo pos (starEach args X.env)) (backToKw pos (keywordEach [] X.env)))) :
  wpAny (model X.prog X.w) X.A (eval (.Call (.Attribute e m apos) args [] pos) X.env) Q X.xe s:=by
 refine PySem.W.methodCall_KW (pl:=pl) (bS (he pins s σ H _ I h) fun u s1 ⟨x,H1,I1,rx,a,C,dx,fs,g,ex,ea,c,k,l,q⟩=>?_) ht
 subst ex
 obtain rfl:u=Value.ref a:=rx
 exact qc I1 ea c k l (q s1 I1)
end
section
variable {X:Cx} {pins:List (Addr×Obj)} {σ:St} {H:Hp} {s:Shared} {A:Around} {E:Value->Shared->Prop} {Q:Value->Shared->Prop} {c:Value} {b:Bool}
inductive TyOf (K:Kd) (H:Hp):V->Value->Prop where
 |non:TyOf K H .non (.type "NoneType")
 |bl (x:Bool):TyOf K H (.bl x) (.type "bool")
 |int (i:Int):TyOf K H (.int i) (.type "int")
 |str (x:Str):TyOf K H (.str x) (.type "str")
 |flt (x:UInt64):TyOf K H (.flt x) (.type "float")
 |lst {a:Addr} {xs:List V} (e:H a=some (.lst xs)):TyOf K H (.ref a) (.type "list")
 |frz {a:Addr} {o:Obj} {xs:List V} (e:H a=some (.frz o (.lst xs))):TyOf K H (.ref a) (.type "list")
 |tup {a:Addr} {xs:List V} (e:H a=some (.tup xs)):TyOf K H (.ref a) (.type "tuple")
 |dK {a:Addr} {kvs:List (ue×V)} (e:H a=some (.dK kvs)):TyOf K H (.ref a) (.type "dict")
 |dT {a:Addr} {kvs:List (List ue×V)} (e:H a=some (.dT kvs)):TyOf K H (.ref a) (.type "dict")
 |ins {a C dx:Addr} {fs:List (Str×V)} (e:H a=some (.ins C dx fs)) (cl:Cls K C) (ha:PySem.W.findIn K (.ref C) "__class__" = some (some (.builtin "object.__class__")))
   (hn:PySem.W.specialIn K (.builtin "object.__class__") "__get__" = some (some (.builtin "getset_descriptor.__get__"))) (htk:PySem.W.takesIn K (.builtin "object.__class__")=some true)
   (hm:PySem.W.mroIn K C (.type "object")=some true):TyOf K H (.ref a) (.ref C)
end
structure Room (k:Nat) (A:Around):Prop where
 hd:A.handled=none
 dp:A.depth+3*k+5<recursionLimit
 un:A.units+16*k+200<cLine
theorem Room.mono {j k:Nat} {A:Around} (r:Room k A) (h:j<=k):Room j A:=⟨r.hd,by have:=r.dp; lia,by have:=r.un; lia⟩
theorem Room.deeper {k:Nat} {A:Around} (r:Room (k+1) A) (env:Env):Room k (A.deeper env):=
 ⟨r.hd,by have:=r.dp; show A.depth+1+3*k+5<_; lia,by have:=r.un; show A.units+3+16*k+200<_; lia⟩
theorem Room.in1 {k:Nat} {A:Around} (r:Room (k+1) A):Room k A.in1:=
 ⟨r.hd,by have:=r.dp; show A.depth+3*k+5<_; lia,by have:=r.un; show A.units+1+16*k+200<_; lia⟩
theorem wN {A:Around} {C:Addr} {us:List Value} {kw:List (Str×Value)}:(A.under (.builtin "type.__call__" ⟨.ref C::us,kw⟩)).depth=A.depth+1:=by
 first|rfl|simp [Around.under,Code.weight,Code.isCreation,Code.isGuard,Code.isCaller,Code.frames,Code.isFrame,guardIds]
theorem vY {A:Around} {C:Addr} {us:List Value} {kw:List (Str×Value)}:(A.under (.builtin "type.__call__" ⟨.ref C::us,kw⟩)).units=A.units+1:=by
 first|rfl|simp [Around.under,Code.cUnits,Code.frames,Code.isFrame]
theorem Room.make {k:Nat} {A:Around} (r:Room (k+1) A) (C:Addr) (us:List Value) (kw:List (Str×Value)):Room k (A.under (.builtin "type.__call__" ⟨.ref C::us,kw⟩)):=
 ⟨r.hd,by have:=r.dp; rw [wN]; lia,by have:=r.un; rw [vY]; lia⟩
theorem Room.depth {k:Nat} {A:Around} (r:Room k A):A.depth<recursionLimit:=by have:=r.dp; lia
theorem Room.units {k:Nat} {A:Around} (r:Room k A):A.units+64<cLine:=by have:=r.un; lia
noncomputable def Fy:TA:=fun _ H Q=>Q [] H
noncomputable def E3 (ta:TE) (tr:TA):TA:=fun σ H Q=>ta σ H fun x H1=>tr σ H1 fun xs H2=>Q (x::xs) H2
section
variable {X:Cx} {e:Expr} {es:List Expr} {te:TE} {t:TA} {pos:Pos}
theorem kR:PA X [] Fy:=fun _ _ _ _ H Q I h=>Calls.spliced_nil ⟨[],H,I,.nil,h⟩
theorem j8 (ha:PE X e te) (hr:PA X es t) (hs:starEach (e::es) X.env=(false,eval e X.env)::starEach es X.env:=by rfl):PA X (e::es) (E3 te t):=by
 intro pos pins s σ H Q I h
 rw [hs]
 show wpAny _ _ (spliced ((false,eval e X.env)::backTo pos (starEach es X.env))) _ _ s
 refine Calls.spliced_cons (bS (ha pins s σ H _ I h) fun u s1 ⟨x,H1,I1,r1,q1⟩=>?_)
 exact bS (hr pos pins s1 σ H1 _ I1 q1) fun us s2 ⟨xs,H2,I2,r2,q2⟩=>⟨x::xs,H2,I2,.cons r1 r2,q2⟩
noncomputable def Jk (t:TA):TE:=fun σ H Q=>t σ H fun xs H1=>xs.length<=sizeLine/\∀p,H1 p=none->Q (.ref p) (upd H1 p (.tup xs))
noncomputable def Hj (t:TA):TE:=fun σ H Q=>t σ H fun xs H1=>xs.length<=sizeLine/\∀p,H1 p=none->Q (.ref p) (upd H1 p (.lst xs))
theorem vQ {x1} (h:PA X es t):PE X (.Tuple es x1 pos) (Jk t):=by
 intro pins s σ H Q I hq
 refine wpAny_Tuple_spliced (bS (h pos pins s σ H _ I hq) fun us s1 ⟨xs,H1,I1,r,z,q⟩=>⟨by rw [<-r.length]; exact z,?_⟩)
 have hf:H1 s1.heap.objs.size=none:=I1.hok.fresh (J5 _)
 refine ⟨.ref s1.heap.objs.size,upd H1 s1.heap.objs.size (.tup xs),I1.laid (t':=s1.toks) (fun b u e=>J0 _ e) (J5 _) ?_,rfl,q _ hf⟩
 exact ⟨z,us,r,⟨_,Heap.get?_push_size _ rfl,rfl,_,rfl⟩⟩
theorem AA (h:PA X es t):PE X (.List es pos) (Hj t):=by
 intro pins s σ H Q I hq
 refine wpAny_List_spliced (bS (h pos pins s σ H _ I hq) fun us s1 ⟨xs,H1,I1,r,z,q⟩=>⟨by rw [<-r.length]; exact z,?_⟩)
 have hf:H1 s1.heap.objs.size=none:=I1.hok.fresh (J5 _)
 refine ⟨.ref s1.heap.objs.size,upd H1 s1.heap.objs.size (.lst xs),I1.laid (t':=s1.toks) (fun b u e=>J0 _ e) (J5 _) ?_,rfl,q _ hf⟩
 exact ⟨z,us,0,r,Heap.get?_push_size _ rfl⟩
end
noncomputable abbrev Sp:=List V->Hp->VK->XK->Prop
noncomputable abbrev wJ:=List Env->Hp->Shared->XK->Value->Shared->Prop
structure Env0 (P:Program) (w:World) (K:Kd) (mg:Str->Option Value) (base:Heap) (A:Around) (outer:List Env) (s:Shared) (H:Hp):Prop where
 frames:A.frames=some outer
 mod:Mod K mg base
 bs:∀b o,base.get? b=some o->s.heap.get? b=some o/\H b=none
 bsz:base.objs.size<=s.heap.objs.size
 funs:s.heap.FunFrames base outer
 frf:∀b∈ir outer,H b=none
 hok:kx P w H s.heap
 bare:AllBare s.gens
noncomputable def CE (outer:List Env) (P:Program) (w:World) (H:Hp) (s:Shared) (Q:VK) (u:Value) (s':Shared):Prop:=
 ∃v H',s'.os=s.os/\AllBare s'.gens/\Un (ir outer) [] H H' s.heap s'.heap/\kx P w H' s'.heap/\br v u/\Q v H'
noncomputable def CR (CX:wJ) (outer:List Env) (P:Program) (w:World) (H:Hp) (s:Shared) (Q:VK) (E:XK) (r:Result) (s':Shared):Prop:=
 match r with
 |.ok (.ret u)=>CE outer P w H s Q u s'
 |.ok _=>False
 |.error e=>CX outer H s E e s'
structure FnOk (P:Program) (w:World) (K:Kd) (mg:Str->Option Value) (base:Heap) (CX:wJ) (k:Nat) (f:Addr) (fd:FuncData) (ps:List Str) (sp:Sp):Prop where
 len:∀vs H Q E,sp vs H Q E->vs.length=ps.length
 run:∀(A:Around) (outer:List Env) (s:Shared) (H:Hp) (args:Args) (us:List Value) (vs:List V) (Q:VK) (E:XK),Room k A->Env0 P w K mg base A outer s H->BindsTo s fd args (ps.zip us)->aQ vs us->sp vs H Q E ->
  codeAny (model P w) A (.call (.ref f) args) (CR CX outer P w H s Q E) s
theorem FnOk.mono {P:Program} {w:World} {K:Kd} {mg:Str->Option Value} {base:Heap} {CX:wJ} {j k:Nat} {f:Addr} {fd:FuncData} {ps:List Str} {sp:Sp} (F:FnOk P w K mg base CX j f fd ps sp) (h:j<=k) :
  FnOk P w K mg base CX k f fd ps sp:=⟨F.len,fun A outer s H args us vs Q E hr=>F.run A outer s H args us vs Q E (hr.mono h)⟩
theorem FnOk.imp {P:Program} {w:World} {K:Kd} {mg:Str->Option Value} {base:Heap} {CX:wJ} {k:Nat} {f:Addr} {fd:FuncData} {ps:List Str} {sp sp':Sp} (F:FnOk P w K mg base CX k f fd ps sp)
  (h:∀vs H Q E,sp' vs H Q E->sp vs H Q E):FnOk P w K mg base CX k f fd ps sp':=
 ⟨fun vs H Q E q=>F.len vs H Q E (h _ _ _ _ q),fun A outer s H args us vs Q E hr he hb hv hs=>F.run A outer s H args us vs Q E hr he hb hv (h _ _ _ _ hs)⟩
theorem Env0.make {P:Program} {w:World} {K:Kd} {mg:Str->Option Value} {base:Heap} {A:Around} {outer:List Env} {s:Shared} {H:Hp} (e:Env0 P w K mg base A outer s H) (C:Addr) (us:List Value) (kw:List (Str×Value)) :
  Env0 P w K mg base (A.under (.builtin "type.__call__" ⟨.ref C::us,kw⟩)) outer s H:=⟨by first|exact e.frames|(simpa [Around.under,Code.envs,Code.isFrame,pushEnvs] using e.frames),e.mod,e.bs,e.bsz,e.funs,e.frf,e.hok,e.bare⟩
theorem Env0.in1 {P:Program} {w:World} {K:Kd} {mg:Str->Option Value} {base:Heap} {A:Around} {outer:List Env} {s:Shared} {H:Hp} (e:Env0 P w K mg base A outer s H) :
  Env0 P w K mg base A.in1 outer s H:=⟨e.frames,e.mod,e.bs,e.bsz,e.funs,e.frf,e.hok,e.bare⟩
section
variable {X:Cx} {pins:List (Addr×Obj)} {σ:St} {H:Hp} {s s':Shared}
theorem Inv.env0 (I:Inv X pins σ H s):Env0 X.prog X.w X.K X.mg X.base X.A X.stack s H:=
 ⟨I.ok.frames,I.ok.mod,I.bs,Nat.le_trans I.ok.bsz I.sz,I.stack,I.stkFree,I.hok,I.bare⟩
theorem Inv.after {Q:VK} {u:Value} (I:Inv X pins σ H s) (h:CE X.stack X.prog X.w H s Q u s'):EP X pins σ Q u s':=by
 obtain ⟨v,H',os,bare,un,hok,r,q⟩:=h
 obtain ⟨hh,g,d,t,os'⟩:=s'
 obtain rfl:os'=s.os:=os
 exact ⟨v,H',I.call (h':=hh) (g':=g) (d':=d) (t':=t) (ch:=[]) un hok bare (fun b z=>absurd z 0x4),r,q⟩
end
noncomputable def Hb (sp:Sp) (dvs:List V) (E:XK) (t:TA):TE:=fun σ H Q=>t σ H fun vs H1=>sp (vs++dvs) H1 Q E
noncomputable def Hg (C:Addr) (m:Str) (sp:Sp) (dvs:List V) (E:XK) (ta:TE) (t:TA):TE:=fun σ H Q=>ta σ H fun x H1=>∃a dx fs,x=.ref a/\H1 a=some (.ins C dx fs)/\fs.lookup m=none /\
 t σ H1 fun vs H2=>sp (x::(vs++dvs)) H2 Q E
noncomputable def HS (C:Addr) (sp:Sp) (dvs:List V) (E:XK) (t:TA):TE:=fun σ H Q=>t σ H fun vs H1=>∀x dx,H1 x=none->H1 dx=none->dx≠x ->
 sp (.ref x::(vs++dvs)) (upd (upd H1 dx (.own x)) x (.ins C dx [])) (fun v H2=>v=.non/\Q (.ref x) H2) E
noncomputable def gh (K:Kd) (fd:FuncData) (ps:List Str) (ds:List Value):Prop:=
 ∀(s:Shared) (us:List Value),K.In s.heap->(us++ds).length=ps.length->BindsTo s fd ⟨us,[]⟩ (ps.zip (us++ds))
theorem gh.all {K:Kd} {fd:FuncData} {ps:List Str} (h:∀us:List Value,us.length=ps.length->bindArgs fd ⟨us,[]⟩=pure (ps.zip us)):gh K fd ps []:=fun s us _ hl=>by
 rw [List.append_nil] at hl ⊢
 exact .of_eq (h us hl)
noncomputable def iZ (CX:wJ) (X:Cx) (E:XK):Prop:=∀(pins:List (Addr×Obj)) (σ:St) (H:Hp) (s:Shared) (e:Value) (s':Shared),Inv X pins σ H s->CX X.stack H s E e s'->X.xe e s'
section
variable {X:Cx} {CX:wJ} {k:Nat} {f C:Addr} {fd:FuncData} {ps:List Str} {sp:Sp} {dvs:List V} {ds:List Value} {E:XK} {x m:Str} {p pos apos:Pos} {e o:Expr} {es:List Expr} {ta:TE} {t:TA}
theorem Bg {pins:List (Addr×Obj)} {σ:St} {H:Hp} {s:Shared} {Q:VK} {us:List Value} {vs:List V} (F:FnOk X.prog X.w X.K X.mg X.base CX k f fd ps sp) (hr:Room k X.A) (hb:gh X.K fd ps ds) (hd:aQ dvs ds) (hx:iZ CX X E)
  (I:Inv X pins σ H s) (r:aQ vs us) (h:sp (vs++dvs) H Q E):wpAny (model X.prog X.w) X.A (call (.ref f) us) (EP X pins σ Q) X.xe s:=by
 have r2:aQ (vs++dvs) (us++ds):=r.append hd
 have hl:(us++ds).length=ps.length:=by rw [<-r2.length]; exact F.len _ _ _ _ h
 refine wpAny_call (codeAny_mono (F.run X.A X.stack s H ⟨us,[]⟩ (us++ds) (vs++dvs) Q E hr I.env0 (hb s us I.kIn hl) r2 h) fun r s' hq=>?_)
 cases r with
 |error e=>exact hx pins σ H s e s' I hq
 |ok fl=>
  cases fl with
  |ret u=>exact I.after hq
  |next=>exact False.elim hq
  |brk=>exact False.elim hq
  |cont=>exact False.elim hq
theorem xc (F:FnOk X.prog X.w X.K X.mg X.base CX k f fd ps sp) (hr:Room k X.A) (hg:Gl X x) (hm:X.mg x=some (.ref f)) (hk:PySem.W.keepIn X.K (.ref f)=true) (hb:gh X.K fd ps ds) (hd:aQ dvs ds) (hx:iZ CX X E)
  (ha:PA X (e::es) t) (hdb:(x==("__debug__" : Str))=false:=by decide) (he:starEach (e::es) X.env=(false,eval e X.env)::starEach es X.env:=by rfl) (hpl:(backTo pos (starEach es X.env)).any (·.1)=false:=by rfl) :
  PE X (.Call (.Name x p) (e::es) [] pos) (Hb sp dvs E t):=by
 intro pins s σ H Q I h
 refine wpAny_Call_Name_kw (ou I hg hm ?_ hdb)
 refine PySem.W.callWith_K (h₀:=X.base) I.ok.mod.kin hk (bS (ha pos pins s σ H _ I h) fun us s1 ⟨vs,H1,I1,r,q⟩=>⟨I1.kIn,?_⟩) he hpl
 exact Bg F hr hb hd hx I1 r q
theorem DW {pl:Sem Bool} (he:PE X o ta) (c:Cls X.K C) (hm:Meth X.K C m f) (F:FnOk X.prog X.w X.K X.mg X.base CX k f fd ps sp) (hr:Room k X.A) (hb:gh X.K fd ps ds) (hd:aQ dvs ds) (hx:iZ CX X E) (ha:PA X (e::es) t)
  (hst:starEach (e::es) X.env=(false,eval e X.env)::starEach es X.env:=by rfl) (hpl:(backTo pos (starEach es X.env)).any (·.1)=false:=by rfl)
  (ht:eval (.Call (.Attribute o m apos) (e::es) [] pos) X.env=(do
   let ov <-eval o X.env
   standAt apos.atName
   let (f,first) <-holding [ov] (getMethod ov m pl)
   callWith pos f first (backTo pos (starEach (e::es) X.env)) (backToKw pos (keywordEach [] X.env))):=by rfl) :
  PE X (.Call (.Attribute o m apos) (e::es) [] pos) (Hg C m sp dvs E ta t):=by
 intro pins s σ H Q I h
 refine PySem.W.methodCall_KW (pl:=pl) (bS (he pins s σ H _ I h) fun u s1 ⟨x,H1,I1,rx,a,dx,fs,ex,ea,l,q⟩=>?_) ht
 subst ex
 obtain rfl:u=Value.ref a:=rx
 refine qc I1 ea c hm l ?_
 refine PySem.W.callWith_K (first:=[.ref a]) (h₀:=X.base) I.ok.mod.kin hm.kp (bS (ha pos pins s1 σ H1 _ I1 q) fun us s2 ⟨vs,H2,I2,r,q2⟩=>⟨I2.kIn,?_⟩) hst hpl
 exact Bg (us:=.ref a::us) (vs:=.ref a::vs) F hr hb hd hx I2 (.cons rfl r) q2
structure Mk (K:Kd) (C f:Addr):Prop where
 makes:PySem.W.makesIn K C=true
 init:PySem.W.findIn K (.ref C) "__init__" = some (some (.ref f))
 fn:PySem.W.isFn K (.ref f)=true
 kp:PySem.W.keepIn K (.ref C)=true
theorem Ag {pins:List (Addr×Obj)} {σ:St} {H:Hp} {s:Shared} {Q:VK} {us:List Value} {vs:List V} (M:Mk X.K C f) (F:FnOk X.prog X.w X.K X.mg X.base CX k f fd ps sp) (hr:Room (k+1) X.A) (hb:gh X.K fd ps ds) (hd:aQ dvs ds)
  (hx:iZ CX X E) (I:Inv X pins σ H s) (r:aQ vs us)
  (h:∀x dx,H x=none->H dx=none->dx≠x->sp (.ref x::(vs++dvs)) (upd (upd H dx (.own x)) x (.ins C dx [])) (fun v H2=>v=.non/\Q (.ref x) H2) E) :
  wpAny (model X.prog X.w) X.A (call (.ref C) us) (EP X pins σ Q) X.xe s:=by
 have hq:=h (s.heap.objs.size+1) s.heap.objs.size (I.hok.fresh (Nat.le_succ _)) (I.hok.fresh (J5 _)) (Nat.ne_of_lt (Nat.lt_succ_self _))
 have I2:=Inv.made (C:=C) I
 have r2:aQ (V.ref (s.heap.objs.size+1)::(vs++dvs)) (Value.ref (s.heap.objs.size+1)::(us++ds)):=.cons rfl (r.append hd)
 have hl:(Value.ref (s.heap.objs.size+1)::us++ds).length=ps.length:=by
  have e:=r2.length
  rw [F.len _ _ _ _ hq] at e
  exact e.symm
 refine wpAny_call (Ay (f:=f) I.kIn M.makes M.init (beq_iff_eq.mp M.fn) (codeAny_mono (F.run _ X.stack _ _ ⟨Value.ref (s.heap.objs.size+1)::us,[]⟩ (Value.ref (s.heap.objs.size+1)::(us++ds)) _ _ E (hr.make C us [])
  (I2.env0.make C us []) (hb _ (Value.ref (s.heap.objs.size+1)::us) I2.kIn hl) r2 hq) fun r s' hq'=>?_))
 cases r with
 |error e=>exact hx pins σ _ _ e s' I2 hq'
 |ok fl=>
  cases fl with
  |ret u=>
   obtain ⟨v,H',I3,rv,ev,q3⟩:=I2.after hq'
   subst ev
   exact ⟨rv,⟨V.ref (s.heap.objs.size+1),H',I3,rfl,q3⟩⟩
  |next=>exact False.elim hq'
  |brk=>exact False.elim hq'
  |cont=>exact False.elim hq'
theorem xI (M:Mk X.K C f) (F:FnOk X.prog X.w X.K X.mg X.base CX k f fd ps sp) (hr:Room (k+1) X.A) (hg:Gl X x) (hm:X.mg x=some (.ref C)) (hb:gh X.K fd ps ds) (hd:aQ dvs ds) (hx:iZ CX X E)
  (ha:PA X (e::es) t) (hdb:(x==("__debug__" : Str))=false:=by decide) (he:starEach (e::es) X.env=(false,eval e X.env)::starEach es X.env:=by rfl) (hpl:(backTo pos (starEach es X.env)).any (·.1)=false:=by rfl) :
  PE X (.Call (.Name x p) (e::es) [] pos) (HS C sp dvs E t):=by
 intro pins s σ H Q I h
 refine wpAny_Call_Name_kw (ou I hg hm ?_ hdb)
 refine PySem.W.callWith_K (h₀:=X.base) I.ok.mod.kin M.kp (bS (ha pos pins s σ H _ I h) fun us s1 ⟨vs,H1,I1,r,q⟩=>⟨I1.kIn,?_⟩) he hpl
 exact Ag M F hr hb hd hx I1 r q
end
section
variable {X:Cx} {CX:wJ} {k:Nat} {f C:Addr} {fd:FuncData} {ps ks:List Str} {sp:Sp} {E:XK} {x m:Str} {p pos apos kpos:Pos} {e o:Expr} {es:List Expr} {kws:List Keyword} {te ta:TE} {t tk:TA} {nm:Option Str}
variable {g:List Value->List Value->List Value} {gV:List V->List V->List V}
end
structure FnScope (N P:List Str) (sc:Scope):Prop where
 kind:sc.kind=.function
 co:sc.isCoroutine=false
 gen:sc.isGenerator=false
 nd:N.Nodup
 pre:N.take P.length=P
 par:∀x∈P,sc.names.lookup x=some .local\/sc.names.lookup x=some .cell
 nofree:∀y∈sc.names,y.2≠.free
theorem rm {kindOf:Str->Option NameKind} {x:Str}:∀{binds:List (Str×Value)} {m:Str->Option Value},(∀v,(x,v)∉binds)->bindL kindOf binds m x=m x
 |[],_,_=>rfl
 |(n,v)::r,m,h=>by
  unfold bindL
  rw [rm fun w hw=>h w (JY _ hw)]
  split
  ·have:x≠n:=by rintro rfl; exact h v JZ
   simp [this]
  ·rfl
theorem rj {kindOf:Str->Option NameKind} {x:Str}:∀{binds:List (Str×Value)} {m:Str->Option Value},(∀v,(x,v)∉binds)->bindC kindOf binds m x=m x
 |[],_,_=>rfl
 |(n,v)::r,m,h=>by
  unfold bindC
  rw [rj fun w hw=>h w (JY _ hw)]
  split
  ·rfl
  ·have:x≠n:=by rintro rfl; exact h v JZ
   simp [this]
theorem rX {kindOf:Str->Option NameKind} {x:Str} {v:Value}:∀{P:List Str} {vs:List Value} {i:Nat} {m:Str->Option Value},P.Nodup->P[i]?=some x->vs[i]?=some v->kindOf x=some .local ->
  bindL kindOf (P.zip vs) m x=some v
 |[],_,_,_,_,h,_,_=>by simp at h
 |_::_,[],_,_,_,_,h,_=>by simp at h
 |p::P,w::vs,0,m,nd,h1,h2,hk=>by
  simp at h1 h2; subst h1; subst h2
  show bindL kindOf ((p,w)::P.zip vs) m p=_
  unfold bindL
  rw [rm fun v hv=>(List.nodup_cons.mp nd).1 (List.of_mem_zip hv).1,if_pos hk]
  simp
 |p::P,w::vs,i+1,m,nd,h1,h2,hk=>by
  show bindL kindOf ((p,w)::P.zip vs) m x=_
  unfold bindL
  exact rX (i:=i) (List.nodup_cons.mp nd).2 (by simpa using h1) (by simpa using h2) hk
theorem rN {kindOf:Str->Option NameKind} {x:Str} {v:Value}:∀{P:List Str} {vs:List Value} {i:Nat} {m:Str->Option Value},P.Nodup->P[i]?=some x->vs[i]?=some v->kindOf x≠some .local ->
  bindC kindOf (P.zip vs) m x=some v
 |[],_,_,_,_,h,_,_=>by simp at h
 |_::_,[],_,_,_,_,h,_=>by simp at h
 |p::P,w::vs,0,m,nd,h1,h2,hk=>by
  simp at h1 h2; subst h1; subst h2
  show bindC kindOf ((p,w)::P.zip vs) m p=_
  unfold bindC
  rw [rj fun v hv=>(List.nodup_cons.mp nd).1 (List.of_mem_zip hv).1,if_neg hk]
  simp
 |p::P,w::vs,i+1,m,nd,h1,h2,hk=>by
  show bindC kindOf ((p,w)::P.zip vs) m x=_
  unfold bindC
  exact rN (i:=i) (List.nodup_cons.mp nd).2 (by simpa using h1) (by simpa using h2) hk
noncomputable def start (N:List Str) (vs:List V):St:=vs.map some++List.replicate (N.length-vs.length) none
noncomputable def fu (CX:wJ) (P:Program) (w:World) (K:Kd) (mg:Str->Option Value) (base:Heap) (N:List Str) (qual:Str) (scope:Scope) (f:Addr) (cd:Value) (A:Around) (outer:List Env) (s:Shared) (H:Hp) (E:XK):Cx where
 prog:=P
 w:=w
 K:=K
 mg:=mg
 base:=base
 A:=A.deeper (envOfC qual scope s.heap.objs.size f cd)
 N:=N
 s₀:=s
 H₀:=H
 env:=envOfC qual scope s.heap.objs.size f cd
 outer:=outer
 stack:=envOfC qual scope s.heap.objs.size f cd::outer
 ex:=[]
 calm:=true
 fn:=fun _=>true
 pn:=[]
 xe:=fun e s'=>wpAny (model P w) (A.deeper (envOfC qual scope s.heap.objs.size f cd)) (leaving (envOfC qual scope s.heap.objs.size f cd) e) (fun _ s''=>CX outer H s E e s'') (fun e' s''=>CX outer H s E e' s'') s'
theorem uL {sc:Scope} {n:Nat} {x:Str} (h:sc.names.lookup x=some .cell):∃c,(cellsFrom n sc.names []).lookup x=some c:=by
 have q:=PySem.W.cellsFrom_some sc.names n [] (.inl h)
 exact Option.isSome_iff_exists.mp q
theorem yY {CX:wJ} {P:Program} {w:World} {K:Kd} {mg:Str->Option Value} {base:Heap} {N ps:List Str} {qual:Str} {scope:Scope} {f:Addr} {cd:Value} {A:Around} {outer:List Env} {s s1:Shared} {H:Hp} {E:XK} {us:List Value} {vs:List V}
  (S:FnScope N ps scope) (hd:A.handled=none) (e0:Env0 P w K mg base A outer s H) (hl:vs.length=ps.length) (r:aQ vs us)
  (x:InCallC s s.heap.objs.size (bindL (envOfC qual scope s.heap.objs.size f cd).kindOf (ps.zip us) fun _=>none) (cellsFrom (s.heap.objs.size+1) scope.names []) (bindC (envOfC qual scope s.heap.objs.size f cd).kindOf (ps.zip us) fun _=>none) s1) :
  Inv (fu CX P w K mg base N qual scope f cd A outer s H E) [] (start N vs) H s1:=by
 have hpl:ps.length<=N.length:=by have:=congrArg List.length S.pre; rw [List.length_take] at this; lia
 obtain ⟨h1,tk,rfl,hk⟩:=x.done
 have noA:∀b:Addr,b∉(fu CX P w K mg base N qual scope f cd A outer s H E).ex:=fun b z=>absurd (show b∈([]:List Addr) from z) 0x4
 refine ⟨⟨e0.mod,S.kind,rfl,rfl,J5 _,fun y z c h1 h2=>?_,fun y hy=>?_,fun y c _ h=>?_,fun _=>hd,Around.frames_deeper e0.frames,.inr ⟨rfl,rfl⟩,fun b z=>absurd z (noA b),e0.bs,e0.bsz,fun b _ _=>noA b,fun b z=>absurd z (noA b),e0.funs,e0.frf⟩,
  rfl,e0.bare,Un.kept hk,⟨_,x.toInCall.ns,fun i y v h1 h2 h3=>?_⟩,fun y c h=>⟨_,x.cell y c h⟩,e0.hok.fresh (J5 _),fun y c h=>?_,fun p hp=>absurd (show p∈([]:List (Addr×Obj)) from hp) 0x4,e0.hok.kept hk,?_⟩
 ·exact name_of_addr x.apart (PySem.mem_of_lookup h1) (PySem.mem_of_lookup h2)
 ·have hy:scope.names.lookup y=some .cell\/scope.names.lookup y=some .free:=hy
  rcases hy with hy|hy
  ·exact uL hy
  ·exact absurd rfl (S.nofree _ (PySem.mem_of_lookup hy))
 ·exact Nat.le_of_lt (x.above y c (PySem.mem_of_lookup h))
 ·have hi:i<vs.length:=by
   unfold start at h2
   by_cases hi:i<vs.length
   ·exact hi
   ·rw [List.getElem?_append_right (by simpa using hi)] at h2
    rw [List.getElem?_replicate] at h2
    split at h2 <;> cases h2
  have ha:vs[i]?=some v:=by
   unfold start at h2
   rw [List.getElem?_append_left (by simpa using hi),List.getElem?_map] at h2
   cases e:vs[i]? with
   |none=>rw [e] at h2; cases h2
   |some a=>rw [e] at h2; cases h2; rfl
  obtain ⟨u,hu,rv⟩:=r.get ha
  have hp:ps[i]?=some y:=by
   rw [<-S.pre,List.getElem?_take_of_lt 0x1]; exact h1
  have ndP:ps.Nodup:=by rw [<-S.pre]; exact S.nd.sublist (List.take_sublist _ _)
  refine ⟨u,rv,?_⟩
  rcases S.par y (List.mem_of_getElem? hp) with k|k
  ·exact .inl ⟨k,rX ndP hp hu k⟩
  ·obtain ⟨c,e⟩:=uL (n:=s.heap.objs.size+1) k
   refine .inr ⟨.inl k,c,e,?_⟩
   have q:=x.cell y c e
   rw [rN ndP hp hu (by show scope.names.lookup y≠_; rw [k]; decide)] at q
   exact q
 ·exact e0.hok.fresh (Nat.le_of_lt (x.above y c (PySem.mem_of_lookup h)))
 ·unfold start
  show _=N.length
  rw [List.length_append,List.length_map,List.length_replicate]
  lia
theorem Br {CX:wJ} {P:Program} {w:World} {K:Kd} {mg:Str->Option Value} {base:Heap} {k:Nat} {f:Addr} {name qual:Str} {params:Arguments} {body:List Stmt} {scope:Scope} {dV kV doc pm cdv ct oc:Value} {an od:Option Addr}
  {osl:Array (Option Value)} {N ps:List Str} {sp:Sp} (lk:K.lookup f=some ⟨oc,od,.func (PySem.W.fnOf name qual params body scope dV kV doc pm an cdv ct),osl⟩) (hcd:PySem.W.codeIn K cdv qual=true) (S:FnScope N ps scope)
  (len:∀vs H Q E,sp vs H Q E->vs.length=ps.length)
  (hbody:∀(A:Around) (outer:List Env) (s:Shared) (H:Hp) (vs:List V) (Q:VK) (E:XK),Room k (A.deeper (envOfC qual scope s.heap.objs.size f cdv))->sp vs H Q E ->
   ∃t,qy (fu CX P w K mg base N qual scope f cdv A outer s H E) body t/\t { nx:=fun _ H'=>Q .non H',rt:=Q } (start N vs) H) :
  FnOk P w K mg base CX (k+1) f (PySem.W.fnOf name qual params body scope dV kV doc pm an cdv ct) ps sp:=by
 refine ⟨len,fun A outer s H args us vs Q E hr e0 hb r hsp=>?_⟩
 have hl:=len _ _ _ _ hsp
 have KX:K.In s.heap:=e0.mod.kin.keeps fun b o e=>(e0.bs b o e).1
 have lim:s.heap.NoLimit:=e0.mod.nolimit.keeps fun b o e=>(e0.bs b o e).1
 have hkind:∀y∈ps.zip us,scope.names.lookup y.1=some .local\/(scope.names.lookup y.1=some .cell/\((cellsFrom (s.heap.objs.size+1) scope.names []).lookup y.1).isSome=true):=fun ⟨n,v⟩ hy=>by
  rcases S.par n (List.of_mem_zip hy).1 with q|q
  ·exact .inl q
  ·exact .inr ⟨q,PySem.W.cellsFrom_some _ _ _ (.inl q)⟩
 refine codeAny_call_function hr.depth (KX _ _ lk) rfl S.co S.gen rfl (PySem.W.codeRec_of KX hcd) (hb _ _ _ _ ?_)
 refine wpAny_newFunctionEnv_cells S.kind hkind fun env he s1 x=>?_
 subst he
 refine ⟨lim.keeps x.toInCall.keep,codeAny_func ?_⟩
 obtain ⟨t,ht,hq⟩:=hbody A outer s H vs Q E (hr.deeper _) hsp
 have I:Inv (fu CX P w K mg base N qual scope f cdv A outer s H E) [] (start N vs) H s1:=yY S hr.hd e0 hl r x
 refine wpAny_mono (ht [] s1 (start N vs) H _ I hq) (fun fl s' hs=>?_) fun e s' hs=>hs
 have fin:∀{σ':St} {H':Hp} {v:V} {u:Value},Inv (fu CX P w K mg base N qual scope f cdv A outer s H E) [] σ' H' s'->br v u->Q v H'->CE outer P w H s Q u s':=
  fun {σ' H' v u} J rv q=>⟨v,H',J.os,J.bare,J.base,J.hok,rv,q⟩
 cases fl with
 |ret u=>
  obtain ⟨v,σ',H',J,rv,q⟩:=hs
  exact fin J rv q
 |next=>
  obtain ⟨σ',H',J,q⟩:=hs
  exact fin (v:=V.non) (u:=Value.none) J rfl q
 |brk=>
  obtain ⟨_,_,_,q⟩:=hs
  exact False.elim q
 |cont=>
  obtain ⟨_,_,_,q⟩:=hs
  exact False.elim q
section
variable {X:Cx} {x:Str} {p pos:Pos} {e:Expr} {es:List Expr} {t:TA} {id T:String} {r:List V->Hp->VK->Prop}
noncomputable def Jy (r:List V->Hp->VK->Prop) (t:TA):TE:=fun σ H Q=>t σ H fun vs H1=>r vs H1 Q
theorem B4 (hc:l7 X (.builtin id) r) (hg:Gl X x) (hm:X.mg x=none) (hv:bootBuiltins x=some (.builtin id)) (ha:PA X (e::es) t) (hn:x ≠ "__name__" :=by decide) (hdb:(x==("__debug__" : Str))=false:=by decide)
  (he:starEach (e::es) X.env=(false,eval e X.env)::starEach es X.env:=by rfl) (hpl:(backTo pos (starEach es X.env)).any (·.1)=false:=by rfl):PE X (.Call (.Name x p) (e::es) [] pos) (Jy r t):=by
 intro pins s σ H Q I h
 refine wpAny_Call_Name_kw (sE I hg hm hv ?_ hn hdb)
 exact PyProof.Rows.callWith_builtin1 (bS (ha pos pins s σ H _ I h) fun us s1 ⟨vs,H1,I1,r1,q1⟩=>hc pins s1 σ H1 vs us Q I1 r1 q1) he hpl
theorem yR (hc:l7 X (.type T) r) (hg:Gl X x) (hm:X.mg x=none) (hv:bootBuiltins x=some (.type T)) (ha:PA X (e::es) t) (hn:x ≠ "__name__" :=by decide) (hdb:(x==("__debug__" : Str))=false:=by decide)
  (he:starEach (e::es) X.env=(false,eval e X.env)::starEach es X.env:=by rfl) (hpl:(backTo pos (starEach es X.env)).any (·.1)=false:=by rfl):PE X (.Call (.Name x p) (e::es) [] pos) (Jy r t):=by
 intro pins s σ H Q I h
 refine wpAny_Call_Name_kw (sE I hg hm hv ?_ hn hdb)
 exact PyProof.Rows.callWith_type1 (bS (ha pos pins s σ H _ I h) fun us s1 ⟨vs,H1,I1,r1,q1⟩=>hc pins s1 σ H1 vs us Q I1 r1 q1) he hpl
end
end L2
namespace HT
open PySem PyProof.Rows
noncomputable def lexLt:List Int->List Int->Bool
 |[],[]=>false
 |[],_::_=>true
 |_::_,[]=>false
 |x::xs,y::ys=>if x=y then lexLt xs ys else decide (x<y)
theorem lexLt_cons (x y:Int) (xs ys:List Int):lexLt (x::xs) (y::ys)=if x=y then lexLt xs ys else decide (x<y):=rfl
section
open PySem.SeqAt
open PySem.AutoSeq1 (wpAny_loadPart')
open PySem.MeetsSeq PySem.MeetsSeq2 PySem.MeetsSeq3
end
section
variable {prog:Program} {w:World} {A:Around} {E:Value->Shared->Prop} {s:Shared}
theorem cat_tup {t b:Addr} {vs ws:List Value} {Q:Value->Shared->Prop} (ht:IsTup s.heap t vs.toArray) (hb:IsTup s.heap b ws.toArray) (hv:vs≠[])
  (h1:ws=[]->Q (.ref t) s) (h2:ws≠[]->Q (.ref s.heap.objs.size) { s with heap:=s.heap.push { cls:=.type "tuple",data:=.seq (vs++ws).toArray } })
  (hsz:vs.length+ws.length<=sizeLine):wpAny (model prog w) A (binaryOp .Add (.ref t) (.ref b)) Q E s:=by
 obtain ⟨⟨cls,dd,data,sl⟩,ho,hc,n,hd⟩:=id ht
 obtain ⟨⟨cls2,dd2,data2,sl2⟩,ho2,hc2,n2,hd2⟩:=id hb
 simp only at hc hd hc2 hd2
 subst hc hd hc2 hd2
 have e:vs.toArray++ws.toArray=(vs++ws).toArray:=by simp
 by_cases hw:ws=[]
 ·exact concat_meets ⟨_,ho,rfl⟩ ⟨_,ho2,rfl⟩ noFill_tuple_add seq_tuple_add PySem.F.slot_tuple_add PySem.F.entry_tuple_add (PySem.F.args_tuple_add_2 _ _)
   (tuple_addW1 t b vs.toArray ws.toArray n n2 dd dd2 sl sl2 (by simpa using hv) (by simp [hw])) ⟨ho,ho2,h1 hw⟩
 ·refine concat_meets ⟨_,ho,rfl⟩ ⟨_,ho2,rfl⟩ noFill_tuple_add seq_tuple_add PySem.F.slot_tuple_add PySem.F.entry_tuple_add (PySem.F.args_tuple_add_2 _ _)
   (tuple_addW2 t b vs.toArray ws.toArray n n2 dd dd2 sl sl2 (by simpa using hv) (by simpa using hw) (by rw [List.size_toArray,List.size_toArray]; exact hsz)) ⟨ho,ho2,?_⟩
  rw [e]
  exact h2 hw
noncomputable def sIx (n d:Nat):Option Int->Nat
 |none=>d
 |some v=>if v<0 then (v+(n:Int)).toNat else min v.toNat n
theorem sIx_none (n d:Nat):sIx n d none=d:=rfl
theorem sIx_nat (n d k:Nat):sIx n d (some (k:Int))=min k n:=by
 show (if (k:Int)<0 then ((k:Int)+(n:Int)).toNat else min (k:Int).toNat n)=min k n
 rw [if_neg 0x1,Int.toNat_natCast]
end
end HT
namespace L2
open PySem PySem.Spec PyProof.Rows
noncomputable abbrev TO:=St->Hp->(Option Int->Hp->Prop)->Prop
noncomputable def PO (X:Cx) (e:Option Expr) (t:TO):Prop:=
 ∀(pins:List (Addr×Obj)) (s:Shared) (σ:St) (H:Hp) (Q:Option Int->Hp->Prop),Inv X pins σ H s->t σ H Q ->
  wpAny (model X.prog X.w) X.A (evalPart e X.env) (fun u s'=>∃o H',Inv X pins σ H' s'/\IsPart u o/\Q o H') X.xe s
noncomputable def Cz:TO:=fun _ H Q=>Q none H
noncomputable def G9 (t:TE):TO:=fun σ H Q=>t σ H fun x H1=>∃i,x=.int i/\Q (some i) H1
theorem vF {ns:List Int}:∀{us:List Value},aQ (ns.map V.int) us->IntsAre us ns:=by
 induction ns with
 |nil=>intro us r; rw [List.map_nil] at r; cases r; exact .nil
 |cons n ns ih=>
  intro us r
  rw [List.map_cons] at r
  cases r with
  |cons r1 r2=>
   obtain ⟨t,e⟩:=r1
   subst e
   exact .cons n t (ih r2)
section
variable {X:Cx} {e:Expr} {te:TE} {lo hi:Option Expr} {tl th:TO} {pos p2:Pos}
theorem xl:PO X none Cz:=by
 intro pins s σ H Q I h
 rw [evalPart_none]
 exact J7 ⟨none,H,I,.none,h⟩
theorem xt (h:PE X e te):PO X (some e) (G9 te):=by
 intro pins s σ H Q I hw
 rw [evalPart_some]
 refine bS (h pins s σ H _ I hw) fun u s1 ⟨x,H1,I1,r1,q1⟩=>?_
 obtain ⟨i,rfl,q⟩:=q1
 obtain ⟨t,rfl⟩:=r1
 exact ⟨some i,H1,I1,.int i t,q⟩
noncomputable def Jw (X:Cx) (r:V->Option Int->Option Int->Hp->VK->Prop):Prop:=
 ∀(pins:List (Addr×Obj)) (s:Shared) (σ:St) (H:Hp) (x:V) (v vl vu:Value) (lo hi:Option Int) (sl:Addr) (Q:VK),Inv X pins σ H s->br x v->s.heap.IsSliceOf sl vl vu .none->IsPart vl lo->IsPart vu hi->r x lo hi H Q ->
  ∃T id,typeLookup (.type T) "__getitem__" = pure (some (.builtin id))/\s.TypeIs v T/\wpAny (model X.prog X.w) X.A (getItem v (.ref sl)) (EP X pins σ Q) X.xe s
noncomputable def JC (r:V->Option Int->Option Int->Hp->VK->Prop) (te:TE) (tl th:TO):TE:=fun σ H Q=>te σ H fun x H1=>tl σ H1 fun l H2=>th σ H2 fun u H3=>r x l u H3 Q
theorem uK {r:V->Option Int->Option Int->Hp->VK->Prop} (hr:Jw X r) (he:PE X e te) (hl:PO X lo tl) (hu:PO X hi th):PE X (.Subscript e (.Slice lo hi none p2) pos) (JC r te tl th):=by
 intro pins s σ H Q I h
 refine Subscript_ (bS (he pins s σ H _ I h) fun v s1 ⟨x,H1,I1,r1,q1⟩=>?_)
 refine wpAny_Slice (bS (hl pins s1 σ H1 _ I1 q1) fun vl s2 ⟨l,H2,I2,pl,q2⟩=>bS (hu pins s2 σ H2 _ I2 q2) fun vu s3 ⟨u,H3,I3,pu,q3⟩=>?_)
 rw [evalPart_none]
 refine J7 ?_
 have I4:Inv X pins σ H3 { s3 with heap:=s3.heap.push { cls:=.type "slice",data:=.fields #[vl,vu,.none] } }:=I3.kept (t':=s3.toks) fun b ob q=>J0 _ q
 obtain ⟨T,id,hT,ht,hg⟩:=hr pins { s3 with heap:=s3.heap.push { cls:=.type "slice",data:=.fields #[vl,vu,.none] } } σ H3 x v vl vu l u s3.heap.objs.size Q I4 r1 (Heap.IsSliceOf.new ..) pl pu q3
 show wpAny (model X.prog X.w) X.A (subscriptTail e (.Slice lo hi none p2) v (.ref s3.heap.objs.size)) (EP X pins σ Q) X.xe { s3 with heap:=s3.heap.push { cls:=.type "slice",data:=.fields #[vl,vu,.none] } }
 exact tail_any (ops:=[.ref s3.heap.objs.size,v]) ht hT hg (by with_unfolding_all rfl)
noncomputable def zx (xs:List V) (lo hi:Option Int):List V:=(xs.drop (HT.sIx xs.length 0 lo)).take (HT.sIx xs.length xs.length hi-HT.sIx xs.length 0 lo)
theorem vg (xs:List V) (lo hi:Option Int):(zx xs lo hi).length<=xs.length:=by
 unfold zx
 rw [List.length_take,List.length_drop]
 lia
noncomputable def HJ (K:Kd):R2:=fun x y H Q=>∃a b xs ys,x=.ref a/\y=.ref b/\ka K H a xs/\ka K H b ys/\xs≠[]/\xs.length+ys.length<=sizeLine /\
 (ys=[]->Q (.ref a) H)/\(ys≠[]->∀p,H p=none->Q (.ref p) (upd H p (.tup (xs++ys))))
theorem aQ.nil_iff {xs:List V} {us:List Value} (r:aQ xs us):us=[]↔xs=[]:=by
 cases r with
 |nil=>simp
 |cons _ _=>simp
theorem DJ:rB X (binaryOp .Add) (HJ X.K):=by
 intro pins s σ H x y v u Q I rx ry h
 obtain ⟨a,b,xs,ys,rfl,rfl,ha,hb,hx,hz,q1,q2⟩:=h
 cases rx
 cases ry
 obtain ⟨its,r1,p1,_⟩:=I.tuple ha
 obtain ⟨its2,r2,p2,_⟩:=I.tuple hb
 refine HT.cat_tup p1 p2 (fun z=>hx (r1.nil_iff.mp z)) (fun z=>⟨.ref a,H,I,rfl,q1 (r2.nil_iff.mp z)⟩) (fun z=>?_) (by rw [<-r1.length,<-r2.length]; exact hz)
 refine ⟨.ref s.heap.objs.size,_,I.laid (t':=s.toks) (o:=.tup (xs++ys)) (fun b ob q=>J0 _ q) (J5 _) ?_,rfl,q2 (fun w=>z (r2.nil_iff.mpr w)) _ (I.hok.fresh (J5 _))⟩
 exact ⟨by rw [List.length_append]; exact hz,_,r1.append r2,IsTup.new _ _⟩
end
noncomputable def Ci (n:Nat) (i:Int):Option Nat:=if 0<=i then (if i<n then some i.toNat else none) else if -(n:Int)<=i then some (i+n).toNat else none
noncomputable def atI {α:Type} (xs:List α) (i:Int):Option α:=(Ci xs.length i).bind fun j=>xs[j]?
theorem Cs {n:Nat} {i:Int} {j:Nat} (h:Ci n i=some j):seqIndex? i n=some j/\j<n/\-(n:Int)<=i/\i<n:=by
 unfold Ci at h
 by_cases h0:0<=i
 ·rw [if_pos h0] at h
  by_cases h1:i<n
  ·rw [if_pos h1] at h
   have e:i.toNat=j:=Option.some.inj h
   exact ⟨by rw [seqIndex_of h0 h1,e],0x1,0x1,h1⟩
  ·rw [if_neg h1] at h; cases h
 ·rw [if_neg h0] at h
  by_cases h1:-(n:Int)<=i
  ·rw [if_pos h1] at h
   have e:(i+n).toNat=j:=Option.some.inj h
   exact ⟨by rw [seqIndex_neg 0x1 h1,e],0x1,h1,0x1⟩
  ·rw [if_neg h1] at h; cases h
theorem sh {α:Type} {xs:List α} {i:Int} {v:α} (h:atI xs i=some v):∃j,seqIndex? i xs.length=some j/\xs[j]?=some v/\j<xs.length/\-(xs.length:Int)<=i/\i<xs.length:=by
 unfold atI at h
 cases e:Ci xs.length i with
 |none=>rw [e] at h; cases h
 |some j=>
  rw [e] at h
  obtain ⟨h1,h2,h3,h4⟩:=Cs e
  exact ⟨j,h1,h,h2,h3,h4⟩
noncomputable def j5 (b:Expr):Prop:=∀o i,subscripted b false o i=operate [o,i] (getItem o i)
noncomputable def DT (X:Cx) (r:R2):Prop:=
 ∀(value slice:Expr) (pins:List (Addr×Obj)) (s:Shared) (σ:St) (H:Hp) (x y:V) (v u:Value) (Q:VK),Inv X pins σ H s->br x v->br y u->r x y H Q ->
  subscripted slice false v u=operate [v,u] (getItem v u)->wpAny (model X.prog X.w) X.A (subscriptTail value slice v u) (EP X pins σ Q) X.xe s
noncomputable def Je (X:Cx) (id:String) (r:V->List V->Hp->VK->Prop):Prop:=
 ∀(pins:List (Addr×Obj)) (s:Shared) (σ:St) (H:Hp) (x:V) (xs:List V) (v:Value) (us:List Value) (Q:VK),Inv X pins σ H s->br x v->aQ xs us->r x xs H Q ->
  wpAny (model X.prog X.w) X.A (call (.builtin id) (v::us)) (EP X pins σ Q) X.xe s
section
variable {X:Cx} {a b:Expr} {ta tb:TE} {pos:Pos}
theorem DT.or {r r':R2} (h:DT X r) (h':DT X r'):DT X (fun x y H Q=>r x y H Q\/r' x y H Q):=by
 intro value slice pins s σ H x y v u Q I rx ry q hs
 rcases q with q|q
 ·exact h value slice pins s σ H x y v u Q I rx ry q hs
 ·exact h' value slice pins s σ H x y v u Q I rx ry q hs
theorem EH {r:R2} (hr:DT X r) (ha:PE X a ta) (hb:PE X b tb) (hs:j5 b):PE X (.Subscript a b pos) (Jp r ta tb):=by
 intro pins s σ H Q I h
 exact Subscript_ (IQ ha hb I h fun v u s2 x y H2 I2 rx ry q=>hr a b pins s2 σ H2 x y v u Q I2 rx ry q (hs _ _))
noncomputable def Hf (K:Kd):R2:=fun x y H Q=>∃p xs i v,x=.ref p/\y=.int i/\gg K H p xs/\atI xs i=some v/\Q v H
noncomputable def Ha (K:Kd):R2:=fun x y H Q=>∃p xs i v,x=.ref p/\y=.int i/\ka K H p xs/\atI xs i=some v/\Q v H
noncomputable def HA:R2:=fun x y H Q=>∃z i c,x=.str z/\y=.int i/\z.length<=sizeLine/\atI z.cps.toList i=some c/\Q (.str ⟨#[c]⟩) H
theorem DR:DT X (Hf X.K):=by
 intro value slice pins s σ H x y v u Q I rx ry h hs
 obtain ⟨p,xs,i,z,rfl,rfl,hq,he,q⟩:=h
 cases rx
 obtain ⟨t,rfl⟩:=ry
 obtain ⟨its,r,pl,hz⟩:=I.list hq
 obtain ⟨j,h1,h2,h3,h4,h5⟩:=sh he
 obtain ⟨w,ew,rw'⟩:=r.get h2
 have hl:=r.length
 have hn:=oA
 have fin:EP X pins σ Q w s:=⟨z,H,I,rw',q⟩
 by_cases h0:0<=i
 ·have hj:i.toNat=j:=by
   rw [seqIndex_of h0 h5] at h1
   exact Option.some.inj h1
  exact item_listR pl.isList h0 0x1 (by rw [hj]; simpa using ew) fin hs
 ·have hj:(i+(its.toArray.size:Int)).toNat=j:=by
   rw [seqIndex_neg 0x1 h4] at h1
   rw [List.size_toArray,<-hl]
   exact Option.some.inj h1
  exact subscriptTail_builtinR (x:=w) pl.isList.typeIs slot_list_getitem.lookup
   (wpAny_getItem_list_neg (Q:=fun r s'=>r=w/\EP X pins σ Q r s') pl.isList 0x1 (by rw [List.size_toArray] <;> lia) 0x1 (by rw [hj]; simpa using ew) ⟨rfl,fin⟩) hs
theorem GU:DT X (Ha X.K):=by
 intro value slice pins s σ H x y v u Q I rx ry h hs
 obtain ⟨p,xs,i,z,rfl,rfl,hq,he,q⟩:=h
 cases rx
 obtain ⟨t,rfl⟩:=ry
 obtain ⟨its,r,pl,hz⟩:=I.tuple hq
 obtain ⟨j,h1,h2,h3,h4,h5⟩:=sh he
 obtain ⟨w,ew,rw'⟩:=r.get h2
 have hl:=r.length
 have hn:=oA
 have fin:EP X pins σ Q w s:=⟨z,H,I,rw',q⟩
 exact subscriptTail_builtinR (x:=w) pl.typeIs slot_tuple_getitem.lookup
  (getItem_tuple (j:=j) (Q:=fun r s'=>r=w/\EP X pins σ Q r s') pl 0x1 0x1 (by rw [List.size_toArray,<-hl]; exact h1) (by simpa using ew) ⟨rfl,fin⟩) hs
theorem F0:DT X HA:=by
 intro value slice pins s σ H x y v u Q I rx ry h hs
 obtain ⟨z,i,c,rfl,rfl,hz,he,q⟩:=h
 obtain ⟨t,rfl⟩:=rx
 obtain ⟨t',rfl⟩:=ry
 obtain ⟨j,h1,h2,h3,h4,h5⟩:=sh he
 have hl:z.cps.toList.length=z.length:=by simp [Str.length]
 rw [hl] at h1 h4 h5
 have hn:=oA
 exact tail_any (typeIs_str s z t) slot_str_getitem.lookup (getItem_str (c:=c) (by
  have e1:decide (i < -(2 ^ 63:Int))=false:=decide_eq_false 0x1
  have e2:decide (i>=2 ^ 63)=false:=decide_eq_false 0x1
  rw [e1,e2,Bool.or_false]) (by rw [h1]; simpa using h2) ⟨.str ⟨#[c]⟩,H,I.tok _,⟨_,rfl⟩,q⟩) hs
noncomputable def JV (K:Kd):R2:=fun x y H Q=>Hf K x y H Q\/Ha K x y H Q\/HA x y H Q
theorem BH:DT X (JV X.K):=DR.or (GU.or F0)
theorem Inv.lst {pins:List (Addr×Obj)} {σ:St} {H:Hp} {s:Shared} {p:Addr} {xs:List V} (I:Inv X pins σ H s) (h:H p=some (.lst xs)) :
  ∃(its:List Value) (n:Nat),aQ xs its/\s.heap.get? p=some { cls:=.type "list",data:=.seq its.toArray n }/\xs.length<=sizeLine:=by
 obtain ⟨z,its,n,r,e⟩:=I.hok p _ h
 exact ⟨its,n,r,e,z⟩
theorem sy (lo hi:Option Int) (n:Nat):(sliceBounds lo hi none n).1=((HT.sIx n 0 lo:Nat):Int)/\(sliceBounds lo hi none n).2.1=((HT.sIx n n hi:Nat):Int)/\(sliceBounds lo hi none n).2.2=1:=by
 refine ⟨?_,?_,rfl⟩
 ·cases lo with
  |none=>simp [sliceBounds,HT.sIx]
  |some i=>
   simp only [sliceBounds,HT.sIx,Option.getD_none,show (1:Int)>0 by decide,if_true]
   by_cases h:i<0
   ·simp only [h,if_true] <;> lia
   ·simp only [h,if_false] <;> lia
 ·cases hi with
  |none=>simp [sliceBounds,HT.sIx]
  |some i=>
   simp only [sliceBounds,HT.sIx,Option.getD_none,show (1:Int)>0 by decide,if_true]
   by_cases h:i<0
   ·simp only [h,if_true] <;> lia
   ·simp only [h,if_false] <;> lia
theorem qB (its:List Value) (lo hi:Option Int):slicePick its.toArray lo hi none=((its.drop (HT.sIx its.length 0 lo)).take (HT.sIx its.length its.length hi-HT.sIx its.length 0 lo)).toArray:=by
 obtain ⟨h1,h2,h3⟩:=sy lo hi its.toArray.size
 unfold slicePick
 rw [h1,h2,h3]
 simp only [sliceRange_one,pick_run,List.size_toArray] <;> rfl
noncomputable def G8 (K:Kd):V->Option Int->Option Int->Hp->VK->Prop:=fun x lo hi H Q=>∃a xs,x=.ref a/\gg K H a xs/\∀p,H p=none->Q (.ref p) (upd H p (.lst (zx xs lo hi)))
theorem xA:Jw X (G8 X.K):=by
 intro pins s σ H x v vl vu lo hi sl Q I rx hs pl pu h
 obtain ⟨a,xs,rfl,hx,q⟩:=h
 cases rx
 obtain ⟨its,r,ht,hz⟩:=I.list hx
 have hlen:=r.length
 refine ⟨"list",_,slot_list_getitem.lookup,ht.isList.typeIs,?_⟩
 refine wpAny_getItem_list_slice ht.isList hs pl pu .none 0x4 ?_ (by rw [List.size_toArray] <;> lia)
 rw [qB,<-hlen]
 refine ⟨.ref s.heap.objs.size,_,I.laid (t':=s.toks) (o:=.lst (zx xs lo hi)) (fun b ob q=>J0 _ q) (J5 _) ?_,rfl,q _ (I.hok.fresh (J5 _))⟩
 exact ⟨Nat.le_trans (vg xs lo hi) hz,_,0,(r.drop (HT.sIx xs.length 0 lo)).take (HT.sIx xs.length xs.length hi-HT.sIx xs.length 0 lo),Heap.get?_push_size _ rfl⟩
theorem l8:l7 X (.builtin "len") (fun xs H Q=>∃p ys,xs=[.ref p]/\(gg X.K H p ys\/ka X.K H p ys)/\Q (.int ys.length) H):=by
 intro pins s σ H xs us Q I r h
 obtain ⟨p,ys,rfl,hq,q⟩:=h
 obtain ⟨u,rfl,rx⟩:=qf r
 cases rx
 have hn:=oA
 rcases hq with hq|hq
 ·obtain ⟨its,r',pl,hz⟩:=I.list hq
  have hlen:=r'.length
  exact Calls.call_len_list pl.isList (by simp only [List.size_toArray] <;> lia) ⟨.int ys.length,H,I.tok _,⟨s.toks+1,by rw [List.size_toArray,hlen]⟩,q⟩
 ·obtain ⟨its,r',pl,hz⟩:=I.tuple hq
  have hlen:=r'.length
  exact len_tuple pl (by simp only [List.size_toArray] <;> lia) ⟨.int ys.length,H,I.tok _,⟨s.toks+1,by rw [List.size_toArray,hlen]⟩,q⟩
theorem r9:l7 X (.type "list") (fun xs H Q=>∃p ys,xs=[.ref p]/\(gg X.K H p ys\/ka X.K H p ys)/\∀l,H l=none->Q (.ref l) (upd H l (.lst ys))):=by
 intro pins s σ H xs us Q I r h
 obtain ⟨p,ys,rfl,hq,q⟩:=h
 obtain ⟨u,rfl,rx⟩:=qf r
 cases rx
 have fin:∀(its:List Value),aQ ys its->ys.length<=sizeLine->∀(h':Heap) (c':Nat),(∀b o',s.heap.get? b=some o'->h'.get? b=some o') ->
   h'.get? s.heap.objs.size=some { cls:=.type "list",dict:=none,data:=.seq its.toArray c',slots:=#[] }->EP X pins σ Q (.ref s.heap.objs.size) { s with heap:=h' }:=fun its r' hz h' c' kp e=>
  ⟨.ref s.heap.objs.size,_,I.laid (t':=s.toks) kp (J5 _) (show cu X.prog X.w _ h' _ (.lst ys) from ⟨hz,its,c',r',e⟩),rfl,q _ (I.hok.fresh (J5 _))⟩
 rcases hq with hq|hq
 ·obtain ⟨its,r',pl,hz⟩:=I.list hq
  have hlen:=r'.length
  obtain ⟨o,ho,hc,n,hd⟩:=pl.isList
  exact call_list_seq p (.inl rfl) ho hc hd (fun h' c' kp e=>fin its r' hz h' c' kp e) (by simp only [List.size_toArray] <;> lia)
 ·obtain ⟨its,r',pl,hz⟩:=I.tuple hq
  have hlen:=r'.length
  obtain ⟨o,ho,hc,n,hd⟩:=pl
  exact call_list_seq p (.inr rfl) ho hc hd (fun h' c' kp e=>fin its r' hz h' c' kp e) (by simp only [List.size_toArray] <;> lia)
theorem qL:l7 X (.type "tuple") (fun xs H Q=>∃p ys,xs=[.ref p]/\((gg X.K H p ys/\∀l,H l=none->Q (.ref l) (upd H l (.tup ys)))\/(ka X.K H p ys/\Q (.ref p) H))):=by
 intro pins s σ H xs us Q I r h
 obtain ⟨p,ys,rfl,h⟩:=h
 obtain ⟨u,rfl,rx⟩:=qf r
 cases rx
 rcases h with ⟨hq,q⟩|⟨hq,q⟩
 ·obtain ⟨its,r',pl,hz⟩:=I.list hq
  have hlen:=r'.length
  refine call_tuple_list pl.isList (fun h' kp=>?_) (by simp only [List.size_toArray] <;> lia)
  have I1:Inv X pins σ H { s with heap:=h' }:=I.kept (t':=s.toks) kp
  have I2:Inv X pins σ (upd H h'.objs.size (.tup ys)) { s with heap:=h'.push { cls:=.type "tuple",data:=.seq its.toArray } }:=
   I1.laid (t':=s.toks) (fun b o e=>J0 _ e) (J5 _) (show cu X.prog X.w _ _ _ (.tup ys) from ⟨hz,its,r',IsTup.new _ _⟩)
  exact ⟨.ref h'.objs.size,_,I2,rfl,q _ (I1.hok.fresh (J5 _))⟩
 ·obtain ⟨its,r',pl,hz⟩:=I.tuple hq
  exact call_tuple_same pl ⟨.ref p,H,I,rfl,q⟩
noncomputable def Jt (K:Kd) (T:String) (x:V) (H:Hp):Prop:=match x with
 |.str _=>T = "str"
 |.int _=>T = "int"
 |.ref p=>(T = "list" /\ ∃xs,gg K H p xs)\/(T = "tuple" /\ ∃o,K.lookup p=some o/\o.cls=.type "tuple" /\ o.dict=none) \/
   (T = "dict" /\ ((∃kvs,H p=some (.dK kvs))\/∃kvs,H p=some (.dT kvs)))\/(T = "set" /\ ∃S n,H p=some (.set S n))
 |_=>False
theorem Fk {pins:List (Addr×Obj)} {σ:St} {H:Hp} {s:Shared} {T:String} {x:V} {v:Value} (I:Inv X pins σ H s) (r:br x v) (ty:Jt X.K T x H) :
  s.TypeIs v T/\∀a,v=.ref a->∃ob,s.heap.get? a=some ob/\ob.dict=none:=by
 cases x with
 |str z=>
  obtain ⟨t,rfl⟩:=r
  cases (show T = "str" from ty)
  exact ⟨typeIs_str s z t,fun _ e=>nomatch e⟩
 |int i=>
  obtain ⟨t,rfl⟩:=r
  cases (show T = "int" from ty)
  exact ⟨typeIs_int s i t,fun _ e=>nomatch e⟩
 |ref p=>
  cases r
  rcases ty with ⟨rfl,xs,hq⟩|⟨rfl,o,hk,hc,hd⟩|⟨rfl,hk⟩|⟨rfl,S,n,hk⟩
  ·obtain ⟨its,_,pl,_⟩:=I.list hq
   refine ⟨pl.isList.typeIs,fun a e=>?_⟩
   cases e
   obtain ⟨o,n,e,c,hd,_⟩:=pl
   exact ⟨o,e,hd⟩
  ·refine ⟨⟨o,I.kIn p o hk,hc⟩,fun a e=>?_⟩
   cases e
   exact ⟨o,I.kIn _ o hk,hd⟩
  ·have z:∃o,s.heap.get? p=some o/\o.ExactDict:=by
    rcases hk with ⟨kvs,hk⟩|⟨kvs,hk⟩
    ·obtain ⟨_,_,_,_,o,_,_,e,ex,_⟩:=I.hok p _ hk
     exact ⟨o,e,ex⟩
    ·obtain ⟨_,_,_,_,o,_,_,e,ex,_⟩:=I.hok p _ hk
     exact ⟨o,e,ex⟩
   obtain ⟨o,e,ex⟩:=z
   refine ⟨⟨o,e,ex.1⟩,fun a e2=>?_⟩
   cases e2
   exact ⟨o,e,ex.2.1⟩
  ·obtain ⟨o,_,_,_,e,ex,_⟩:=I.hok p _ hk
   refine ⟨⟨o,e,ex.1⟩,fun a e2=>?_⟩
   cases e2
   exact ⟨o,e,ex.2.1⟩
 |_=>exact False.elim ty
noncomputable def Js (K:Kd) (T:String) (r:V->List V->Hp->VK->Prop) (to:TE) (t:TA):TE:=fun σ H Q=>to σ H fun x H1=>Jt K T x H1/\t σ H1 fun xs H2=>r x xs H2 Q
variable {o e:Expr} {es:List Expr} {to:TE} {t:TA} {name:Str} {apos cpos:Pos} {T id:String} {r:V->List V->Hp->VK->Prop}
theorem uv (pa:PlainAttrs T) (slot:Slot T name id) (hty:typeOf (.builtin id)=pure (.type "method_descriptor")) (hm:Je X id r) (ho:PE X o to) (ha:PA X (e::es) t)
  (hbase:attributeBase o name X.env (eval o X.env)=eval o X.env:=by rfl)
  (hfew:((backTo cpos (starEach (e::es) X.env)).all (fun x=>!x.1)&&(backToKw cpos (keywordEach [] X.env)).all (fun x=>x.1.isSome)
   && decide ((e::es).length+([]:List Keyword).length+(if ([]:List Keyword).isEmpty then 0 else 1)<30))=true:=by rfl)
  (hline:(apos.endLine==cpos.line)=true:=by rfl) (hs:starEach (e::es) X.env=(false,eval e X.env)::starEach es X.env:=by rfl) (hplain:(backTo cpos (starEach es X.env)).any (·.1)=false:=by rfl) :
  PE X (.Call (.Attribute o name apos) (e::es) [] cpos) (Js X.K T r to t):=by
 intro pins s σ H Q I h
 refine wpAny_Call_method_late hbase hfew hline rfl (bS (ho pins s σ H _ I h) fun v s1 ⟨x,H1,I1,r1,ty,q1⟩=>?_)
 obtain ⟨h1,h2⟩:=Fk I1 r1 ty
 refine ⟨T,id,pa,slot,hty,h1,h2,?_⟩
 have hA:=ha cpos pins s1 σ H1 _ I1 q1
 rw [hs] at hA ⊢
 refine Calls.callWith_builtin (by show (false||(backTo cpos (starEach es X.env)).any (·.1))=false; rw [hplain] <;> rfl) (Calls.evalArgs_plain ?_)
 exact bS hA fun us s2 ⟨vs,H2,I2,r2,q2⟩=>hm pins s2 σ H2 x vs v us Q I2 r1 r2 q2
end
noncomputable def Jn (X:Cx) (id:String) (r:V->List V->Hp->VK->Prop):Prop:=
 ∀(pins:List (Addr×Obj)) (s:Shared) (σ:St) (H:Hp) (x:V) (xs:List V) (v:Value) (us:List Value) (Q:VK),Inv X pins σ H s->br x v->aQ xs us->r x xs H Q ->
  wpAny (model X.prog X.w) X.A (call (.builtin id) (v::us)) (EP X pins σ Q) X.xe s
theorem aQ.one:∀{x:V} {us:List Value},aQ [x] us->∃u,us=[u]/\br x u
 |_,_,.cons r .nil=>⟨_,rfl,r⟩
theorem aQ.two:∀{x y:V} {us:List Value},aQ [x,y] us->∃u v,us=[u,v]/\br x u/\br y v
 |_,_,_,.cons r (.cons q .nil)=>⟨_,_,rfl,r,q⟩
theorem aQ.zero:∀{us:List Value},aQ [] us->us=[]
 |_,.nil=>rfl
theorem aQ.eraseIdx:∀{xs:List V} {us:List Value} (i:Nat),aQ xs us->aQ (xs.eraseIdx i) (us.eraseIdx i)
 |_,_,_,.nil=>.nil
 |_,_,0,.cons _ t=>t
 |_,_,i+1,.cons r t=>.cons r (aQ.eraseIdx i t)
theorem aQ.reverse {xs:List V} {us:List Value} (h:aQ xs us):aQ xs.reverse us.reverse:=by
 induction h with
 |nil=>exact .nil
 |cons r t ih=>rw [List.reverse_cons,List.reverse_cons]; exact aQ.append ih (.cons r .nil)
theorem aQ.rep {xs:List V} {us:List Value} (h:aQ xs us):∀k:Nat,aQ (List.replicate k xs).flatten (List.replicate k us).flatten
 |0=>.nil
 |k+1=>by
  rw [List.replicate_succ,List.replicate_succ,List.flatten_cons,List.flatten_cons]
  exact aQ.append h (aQ.rep h k)
theorem qO {α:Type}:∀(l:List α) (i:Nat),(l.eraseIdx i).length<=l.length
 |[],_=>J5 _
 |_::_,0=>Nat.le_succ _
 |_::r,i+1=>Nat.succ_le_succ (qO r i)
theorem rW (its:List Value):∀(k:Nat) (acc:List Value),
  List.foldl (fun x1 x2=>x1++x2) acc.toArray (List.replicate k its.toArray)=(acc++(List.replicate k its).flatten).toArray
 |0,acc=>by simp
 |k+1,acc=>by
  have e:acc.toArray++its.toArray=(acc++its).toArray:=by simp
  have e2:(acc++its)++(List.replicate k its).flatten=acc++(List.replicate (k+1) its).flatten:=by
   rw [List.replicate_succ,List.flatten_cons,List.append_assoc]
  rw [<-e2,<-rW its k (acc++its),<-e,List.replicate_succ,List.foldl_cons]
section
variable {X:Cx} {pins:List (Addr×Obj)} {σ:St} {H:Hp} {s:Shared} {l b:Addr} {xs ys zs:List V}
theorem Inv.lset {its its':List Value} {n:Nat} {f:Array Value->Array Value} {t':Nat} (I:Inv X pins σ H s) (hH:H l=some (.lst xs))
  (e:s.heap.get? l=some { cls:=.type "list",data:=.seq its.toArray n }) (hf:f its.toArray=its'.toArray) (hv:aQ ys its') (hz:ys.length<=sizeLine) :
  Inv X pins σ (upd H l (.lst ys)) { s with heap:=s.heap.update l (Obj.mapSeq f),toks:=t' }:=by
 have q:=PySem.IsL.update e f
 rw [hf] at q
 refine I.write (x:=l) (e:=l) (by rw [hH]; exact trivial) (.inl rfl) (fun b' u hb hu=>(Heap.get?_update_other s.heap (Obj.mapSeq f) (Ne.symm hb)).trans hu) ⟨_,q⟩ ?_
 exact ⟨hz,its',_,hv,q⟩
theorem Inv.lnew {its:List Value} {t':Nat} (I:Inv X pins σ H s) (hv:aQ ys its) (hz:ys.length<=sizeLine) :
  Inv X pins σ (upd H s.heap.objs.size (.lst ys)) { s with heap:=s.heap.push { cls:=.type "list",data:=.seq its.toArray },toks:=t' }:=
 I.laid (fun _ _ q=>J0 _ q) (J5 _) ⟨hz,its,0,hv,Heap.get?_push_size _ rfl⟩
theorem Inv.fresh (I:Inv X pins σ H s):H s.heap.objs.size=none:=I.hok.fresh (J5 _)
theorem Inv.lstM (I:Inv X pins σ H s) (hH:H l=some (.lst xs)):xs.length<=sizeLine/\∃(its:List Value) (n:Nat),aQ xs its/\xs.length=its.length/\s.heap.get? l=some { cls:=.type "list",data:=.seq its.toArray n }:=by
 obtain ⟨z,its,n,r,e⟩:=I.hok l _ hH
 exact ⟨z,its,n,r,r.length,e⟩
theorem uZ {n:Nat} (h:n<=sizeLine):Builtin.List.listTooLong n=false:=by
 unfold Builtin.List.listTooLong
 exact decide_eq_false 0x1
end
section
variable {X:Cx}
noncomputable def xO:V->List V->Hp->VK->Prop:=fun x vs H Q=>∃l xs y,x=.ref l/\vs=[y]/\H l=some (.lst xs)/\xs.length<sizeLine/\Q .non (upd H l (.lst (xs++[y])))
theorem rZ:Jn X "list.append" xO:=by
 intro pins s σ H x vs v us Q I rx rv h
 obtain ⟨l,xs,y,rfl,rfl,hH,hz,q⟩:=h
 cases rx
 obtain ⟨u,rfl,ru⟩:=rv.one
 obtain ⟨z,its,n,r,hl,e⟩:=I.lstM hH
 refine call_meets F.slot_list_append ⟨_,e,rfl⟩ F.entry_list_append (F.args_list_append_2 _ _) (PySem.list_append l its.toArray n u (by rw [List.size_toArray]; lia)) ⟨e,?_⟩
 refine ⟨.non,_,I.lset (its':=its++[u]) hH e 0x4 (r.append (.cons ru .nil)) ?_,rfl,q⟩
 rw [List.length_append,List.length_singleton]
 lia
noncomputable def xK:V->List V->Hp->VK->Prop:=fun x vs H Q=>∃l b xs zs,x=.ref l/\vs=[.ref b]/\H l=some (.lst xs)/\H b=some (.lst zs)/\xs.length+zs.length<=sizeLine/\Q .non (upd H l (.lst (xs++zs)))
theorem yL:Jn X "list.extend" xK:=by
 intro pins s σ H x vs v us Q I rx rv h
 obtain ⟨l,b,xs,zs,rfl,rfl,hH,hB,hz,q⟩:=h
 cases rx
 obtain ⟨u,rfl,ru⟩:=rv.one
 cases ru
 obtain ⟨z,its,n,r,hl,e⟩:=I.lstM hH
 obtain ⟨z2,its2,n2,r2,hl2,e2⟩:=I.lstM hB
 have hsz:its.toArray.size+its2.toArray.size<=sizeLine:=by rw [List.size_toArray,List.size_toArray]; lia
 have hlong:¬(!its.toArray.isEmpty&&Builtin.List.listTooLong (its.toArray.size+its2.toArray.size))=true:=by
  rw [uZ hsz,Bool.and_false]
  exact Bool.false_ne_true
 refine call_meets F.slot_list_extend ⟨_,e,rfl⟩ F.entry_list_extend (F.args_list_extend_2 _ _)
  (AutoSeq1.list_extend_list_list_0 l its.toArray n b its2.toArray n2 hlong (by rw [List.size_toArray]; lia) 0x1) ⟨e,e2,?_⟩
 refine ⟨.non,_,I.lset (its':=its++its2) hH e 0x4 (r.append r2) ?_,rfl,q⟩
 rw [List.length_append]
 lia
noncomputable def Jl:R2:=fun x y H Q=>∃l b xs zs,x=.ref l/\y=.ref b/\H l=some (.lst xs)/\H b=some (.lst zs)/\xs.length+zs.length<=sizeLine/\∀p,H p=none->Q (.ref p) (upd H p (.lst (xs++zs)))
theorem Fj:rB X (binaryOp .Add) Jl:=by
 intro pins s σ H x y v u Q I rx ry h
 obtain ⟨l,b,xs,zs,rfl,rfl,hH,hB,hz,q⟩:=h
 cases rx
 cases ry
 obtain ⟨z,its,n,r,hl,e⟩:=I.lstM hH
 obtain ⟨z2,its2,n2,r2,hl2,e2⟩:=I.lstM hB
 refine PySem.P.add_list e e2 ?_ (by rw [List.size_toArray,List.size_toArray]; lia)
 have ea:its.toArray++its2.toArray=(its++its2).toArray:=by simp
 rw [ea]
 exact ⟨.ref _,_,I.lnew (t':=s.toks) (r.append r2) (by rw [List.length_append]; lia),rfl,q _ I.fresh⟩
noncomputable def IE:R2:=fun x y H Q=>∃l k xs,x=.ref l/\y=.int k/\H l=some (.lst xs)/\-(2 ^ 63)<=k/\k<2 ^ 63/\xs.length*k.toNat<=sizeLine /\
 ∀p,H p=none->Q (.ref p) (upd H p (.lst (List.replicate k.toNat xs).flatten))
theorem Cq {α:Type} (xs:List α) (k:Nat):(List.replicate k xs).flatten.length=k*xs.length:=by
 induction k with
 |zero=>simp
 |succ k ih=>rw [List.replicate_succ,List.flatten_cons,List.length_append,ih,Nat.succ_mul,Nat.add_comm]
theorem Gm:rB X (binaryOp .Mult) IE:=by
 intro pins s σ H x y v u Q I rx ry h
 obtain ⟨l,k,xs,rfl,rfl,hH,h1,h2,hz,q⟩:=h
 cases rx
 obtain ⟨t,rfl⟩:=ry
 obtain ⟨z,its,n,r,hl,e⟩:=I.lstM hH
 have hlen:its.toArray.size*k.toNat<=sizeLine:=by rw [List.size_toArray,<-hl]; exact hz
 have hcap:¬its.toArray.size*k.toNat>(2 ^ 63-1) / 8:=by
  have:(sizeLine:Nat)<=(2 ^ 63-1) / 8:=by decide
  lia
 have hfit:¬(!Builtin.List.listFitsIndex k)=true:=by
  rw [fitsIndex_both h1 h2]
  exact Bool.false_ne_true
 have hlong:¬Builtin.List.listTooLong (its.toArray.size*k.toNat)=true:=by
  rw [uZ hlen]
  exact Bool.false_ne_true
 have hnew:List.foldl (fun x1 x2=>x1++x2) #[] (List.replicate (if its.toArray.isEmpty=true then 0 else k.toNat) its.toArray)=(List.replicate k.toNat its).flatten.toArray:=by
  have f0:∀m:Nat,List.foldl (fun x1 x2=>x1++x2) #[] (List.replicate m its.toArray)=(List.replicate m its).flatten.toArray:=fun m=>by
   have:=rW its m []
   rw [List.nil_append] at this
   exact this
  rw [f0]
  cases its with
  |nil=>simp
  |cons a r'=>rw [if_neg 0x4]
 refine wpAny_binaryOp_repeat_ref (T:= "list") (U:= "int") 0x3 ⟨_,e,rfl⟩ (fun s'=>typeIs_int s' k t) noFill_list_mul F.fills_int_mul F.slot_int_rmul repeat_list F.slot_int_index.lookup
  (call_meets F.slot_int_rmul (typeIs_int s k t) F.entry_int_rmul (F.args_int_rmul_2 _ _) (int___rmul___int_list k t l its.toArray n)
   ⟨e,rfl,⟨_,e,rfl⟩,call_meets F.slot_list_mul ⟨_,e,rfl⟩ F.entry_list_mul (F.args_list_mul_2 _ _) (AutoListH.list___mul___list_int_3 l its.toArray n k t hfit hcap hlong) ⟨e,?_⟩⟩)
 rw [hnew]
 exact ⟨.ref _,_,I.lnew (t':=s.toks) (r.rep k.toNat) (by rw [Cq,Nat.mul_comm]; exact hz),rfl,q _ I.fresh⟩
end
section
variable {prog:Program} {w:World} {A:Around} {E:Value->Shared->Prop} {s:Shared}
set_option maxRecDepth 100000 in
end
section
variable {X:Cx}
end
end L2
namespace Att
open PySem PySem.W PySem.Calls PyProof.Rows
theorem nQ {P:Params} {h:Heap}:∀(ns:List Int) (vs:List Value),WellAll P h vs (ns.map WData.int)->IntsAre vs ns:=by
 intro ns
 induction ns with
 |nil=>
  intro vs w
  rw [List.map_nil] at w
  cases w
  exact .nil
 |cons n ns ih=>
  intro vs w
  rw [List.map_cons] at w
  cases w with
  |cons a b=>
   cases a
   exact .cons _ _ (ih _ b)
theorem zy {l:OpenLaw} {n:Nat} (hn:l.most=some n) {P:Params} {h:Heap} {args:List WData} {vals:List Value}
  (hpre:l.row.toRowW.claim.pre args=true) (hwl:WellAll P h vals args) :
  ∃a vs ns,vals=[Value.ref a]/\args=[WData.list (ns.map WData.int)]/\h.get? a=some { cls:=.type "list",data:=.seq vs.toArray }/\IntsAre vs ns/\ns.length<=n:=by
 have hsh:WShape.hasAll [] args [.list .int]=true:=(pre_splitW hpre).1
 have hc:l.pre.holds [] { args:=args }=true:=(pre_splitW hpre).2
 obtain ⟨d,r,rfl,h1,h2⟩:=hasAllW_cons hsh
 obtain rfl:=hasAllW_nil h2
 obtain ⟨xs,rfl,h3⟩:=hasW_list h1
 obtain ⟨ns,rfl⟩:=items_int h3
 have hlen:ns.length<=n:=by
  unfold OpenLaw.pre at hc
  have h4:(WTm.not (.lt (.lit (.int (n:Int))) (.len (.arg 0)))).holds [] { args:=[.list (ns.map .int)] }=true:=by
   have h4:=(holds_andW hc).1
   rw [hn] at h4
   exact h4
  have h5:=condW_of h4 (w_not (w_lt w_lit (w_len_list (w_arg rfl))))
  rw [List.length_map] at h5
  refine Nat.le_of_not_lt fun q=>?_
  have q':(n:Int)<((ns.length:Nat):Int):=by lia
  first
   |(rw [decide_eq_true q'] at h5; exact absurd h5 0x3)
   |(simp at h5; lia)
 cases hwl with
 |cons w1 w2=>
  cases w2
  cases w1 with
  |list ho hall=>exact ⟨_,_,ns,rfl,rfl,ho,nQ ns _ hall,hlen⟩
theorem zB (l:OpenLaw) (args:List WData):l.row.toRowW.claim.post args (.bool true) args=true:=
 postW_of (r:=l.row.toRowW) (X:=(true==true))
  (show WShape.has [] (.bool true) .bool=true by first|rfl|decide|simp [WShape.has,WShape.arms,WShape.armsAll])
  (show (WTm.eq .res (.lit (.bool true))).value [] { args:=args,res:=some (.bool true),after:=args }=some (.bool (true==true)) from w_eq_bool (w_res rfl) w_lit) rfl
theorem attach_call {l:OpenLaw} {n:Nat} {q:Program} {loose:List Str} {XP:(Str->Option Value)->Heap->Prop} {YP:World->Heap->Prop} {d:DefRec}
  (hn:l.most=some n) (hdf:d.params.defaults=[])
  (call:∀(w:World) (s₀ s₁:Shared) (mg mb:Str->Option Value) (fa:Addr) (o:Obj) (pm cd doc:Value) (a:Addr) (vs:List Value) (ns:List Int),
   Ground q loose [] XP w s₀ mg mb s₁.heap->YP w s₁.heap ->
   s₁.heap.get? fa=some o->o.data=.func (docDef d.name d.params d.body d.scope pm cd doc)->s₁.heap.CodeRec cd d.name->mg d.name=some (.ref fa) ->
   s₁.heap.get? a=some { cls:=.type "list",data:=.seq vs.toArray }->IntsAre vs ns->ns.length<=n->s₁.gens=#[] ->
   codeAny (model l.prog w) callerA (.call (.ref fa) ⟨[.ref a],[]⟩) (fun r s'=>r=.ok (.ret (.bool true))/\OldK s₁.heap s'.heap/\s'.os=s₁.os/\AllBare s'.gens) s₁) :
  WalkO q loose XP YP l.row.toRowW d [] (fun f vs=>PySem.call f vs):=by
 intro w s₀ s₁ mg mb G Y fa o pm cd doc dV kV ho hd hcd hD hmg hg args vals as hpre hlay hrd hwl hlo
 obtain rfl:dV=.none:=Dflts.none hD hdf
 obtain rfl:kV=.none:=Dflts.noKw hD
 obtain ⟨a,vs,ns,rfl,rfl,hobj,hints,hlen⟩:=zy hn hpre hwl
 refine enter_call (codeAny_mono (call w s₀ s₁ mg mb fa o pm cd doc a vs ns G Y ho (fd_plain hd) hcd hmg hobj hints hlen hg) fun r s' hq=>?_)
 obtain ⟨rfl,h2,h3,h4⟩:=hq
 exact ⟨.inl ⟨.bool true,.bool true,[],rfl,fun _=>rfl,.bool true,zB l _,fun _=>⟨List.Pairwise.nil,fun _ hm=>(nomatch hm)⟩⟩,h2,h3,h4⟩
section
variable {prog:Program} {w:World} {A:Around} {E:Value->Shared->Prop} {s:Shared} {K:Frag}
end
end Att
namespace L2
open PySem PySem.Spec PyProof.Rows
theorem gu:∀{vs:List Value} {ns:List Int},IntsAre vs ns->aQ (ns.map V.int) vs
 |_,_,.nil=>.nil
 |_,_,.cons n t h=>.cons ⟨t,rfl⟩ (gu h)
noncomputable def FZ (H:Hp):Prop:=∀b,H b=none\/∃o xs,H b=some (.frz o (.lst xs))
theorem Cc {P:Program} {w:World} {K:Kd} {mg mb:Str->Option Value} {CX:wJ} {k:Nat} {fa a:Addr} {fd:FuncData} {x:Str} {sp:Sp} {s₁:Shared} {vs:List Value} {ns:List Int}
  (KX:K.In s₁.heap) (hns:s₁.heap.Ns mainGlobals mg) (hb:s₁.heap.Ns builtinsNs mb) (hbb:∀x:Str,x ≠ "__name__" -> mb x=bootBuiltins x) (hlim:s₁.heap.NoLimit) (hg:s₁.gens=#[])
  (ha:s₁.heap.get? a=some { cls:=.type "list",data:=.seq vs.toArray }) (hi:IntsAre vs ns) (hl:ns.length<=sizeLine) (hr:Room k callerA)
  (F:∀base:Heap,K.In base->base.Ns mainGlobals mg->FnOk P w K mg base CX k fa fd [x] sp) (hbind:∀(s:Shared) (u:Value),BindsTo s fd ⟨[u],[]⟩ [(x,u)])
  (hsp:∀H:Hp,FZ H->gg K H a (ns.map V.int)->sp [.ref a] H (fun v _=>v=.bl true) fun _ _ _=>False)
  (hCX:∀H e s',CX [] H s₁ (fun _ _ _=>False) e s'->False) :
  codeAny (model P w) callerA (.call (.ref fa) ⟨[.ref a],[]⟩) (fun r s'=>r=.ok (.ret (.bool true))/\OldK s₁.heap s'.heap/\s'.os=s₁.os/\AllBare s'.gens) s₁:=by
 have rv:=gu hi
 have lenV:=hi.length
 have core:∀H:Hp,FZ H->gg K H a (ns.map V.int)->kx P w H s₁.heap->(∀b,H b≠none->b=a)->(H a≠none->K.lookup a=none) ->
   codeAny (model P w) callerA (.call (.ref fa) ⟨[.ref a],[]⟩) (fun r s'=>r=.ok (.ret (.bool true))/\OldK s₁.heap s'.heap/\s'.os=s₁.os/\AllBare s'.gens) s₁:=by
  intro H hO hS hok hA hK
  have base_of:∀{b:Addr} {o:Obj},s₁.heap.get? b=some o->H b=none->(sR s₁.heap H).get? b=some o:=fun e n=>BS e n
  have noA:∀{b:Addr} {o:Obj} {es:Array DictEntry} {ep:Nat},s₁.heap.get? b=some o->o.data=.dict es ep->H b=none:=fun {b o es ep} e d=>by
   cases q:H b with
   |none=>rfl
   |some u=>
    have e':b=a:=hA b (by rw [q]; simp)
    subst e'
    rw [ha] at e; cases e
    have d':Data.seq vs.toArray _=Data.dict es ep:=d
    cases d'
  have nsK:∀{b:Addr} {m:Str->Option Value},s₁.heap.Ns b m->(sR s₁.heap H).Ns b m:=fun {b m} ⟨o,es,ep,e,d,r⟩=>⟨o,es,ep,base_of e (noA e d),d,r⟩
  have hKb:K.In (sR s₁.heap H):=fun b o e=>base_of (KX b o e) (by
   cases q:H b with
   |none=>rfl
   |some u=>
    have e':b=a:=hA b (by rw [q]; simp)
    subst e'
    rw [hK (by rw [q]; simp)] at e; cases e)
  have hM:Mod K mg (sR s₁.heap H):=⟨hKb,nsK hns,⟨mb,nsK hb,hbb⟩,let ⟨mc,h1,h2⟩:=hlim; ⟨mc,nsK h1,h2⟩⟩
  have e0:Env0 P w K mg (sR s₁.heap H) callerA [] s₁ H:=⟨rfl,hM,fun b o e=>DB e,Nat.le_of_eq (yM _ _),trivial,fun b hb=>absurd (show b∈([]:List Addr) from hb) 0x4,hok,.of_eq hg⟩
  refine codeAny_mono ((F _ hKb (nsK hns)).run callerA [] s₁ H ⟨[.ref a],[]⟩ [.ref a] [.ref a] _ _ hr e0 (hbind s₁ (.ref a)) (.cons rfl .nil) (hsp H hO hS)) fun r s' h=>?_
  cases r with
  |error e=>exact (hCX H e s' h).elim
  |ok fl=>
   cases fl with
   |next=>exact False.elim h
   |brk=>exact False.elim h
   |cont=>exact False.elim h
   |ret u=>
    obtain ⟨v,H',os,bare,un,hok',r',q⟩:=h
    have q':v=.bl true:=q
    subst q'
    obtain rfl:u=Value.bool true:=r'
    refine ⟨rfl,OldK.of_keep fun b o e=>?_,os,bare⟩
    cases q:H b with
    |none=>exact un.keep b o e q (by intro z; exact absurd (show b∈([]:List Addr) from z) 0x4) 0x4
    |some u=>
     rcases hO b with z|⟨ob,xs,z⟩
     ·rw [q] at z; cases z
     ·have z2:=un.frzs b ob _ z
      obtain ⟨e1,_⟩:=hok b _ z
      obtain ⟨e2,_⟩:=hok' b _ z2
      rw [e] at e1; cases e1
      exact e2
 cases hk:K.lookup a with
 |some o=>
  have e:=KX a o hk
  rw [ha] at e
  cases e
  refine core (fun _=>none) (fun _=>.inl rfl) (.inr ⟨_,vs.toArray,_,hk,rfl,rfl,rfl,by rw [List.size_toArray,lenV]; exact hl,by simpa using rv⟩) (fun b u z=>by have z':(none:Option HO)=some u:=z; cases z') (fun b z=>absurd rfl z) fun z=>absurd rfl z
 |none=>
  refine core (fun b=>if b=a then some (.frz { cls:=.type "list",data:=.seq vs.toArray } (.lst (ns.map V.int))) else none) (fun b=>?_) (.inl (.inr ⟨{ cls:=.type "list",data:=.seq vs.toArray },if_pos rfl⟩)) (fun b u z=>?_) (fun b z=>?_) fun _=>hk
  ·by_cases hb:b=a
   ·exact .inr ⟨_,_,if_pos hb⟩
   ·exact .inl (if_neg hb)
  ·by_cases hb:b=a
   ·have z':=(if_pos hb).symm.trans z
    cases z'
    subst hb
    exact ⟨ha,by rw [List.length_map]; exact hl,vs,_,rv,ha⟩
   ·have z':=(if_neg hb).symm.trans z
    cases z'
  ·by_cases hb:b=a
   ·exact hb
   ·exact absurd (if_neg hb) z
theorem walk_of {l:PySem.W.OpenLaw} {n k:Nat} {q:Program} {loose:List Str} {XP:(Str->Option Value)->Heap->Prop} {YP:World->Heap->Prop} {d:DefRec} {K:Params->Kd} {CX:World->wJ} {sp:World->Sp} {x:Str}
  (hn:l.most=some n) (hn2:n<=sizeLine) (hdf:d.params.defaults=[]) (hr:Room k callerA)
  (hY:∀(w:World) (h:Heap),YP w h->(K w.params).In h)
  (F:∀(w:World) (mg:Str->Option Value) (fa:Addr) (h:Heap),(K w.params).In h->h.Ns mainGlobals mg->mg d.name=some (.ref fa) ->
   ∃fd:FuncData,(∀(s:Shared) (u:Value),BindsTo s fd ⟨[u],[]⟩ [(x,u)]) /\
    ∀base:Heap,(K w.params).In base->base.Ns mainGlobals mg->FnOk l.prog w (K w.params) mg base (CX w) k fa fd [x] (sp w))
  (hsp:∀(w:World) (H:Hp) (a:Addr) (ns:List Int),ns.length<=n->FZ H->gg (K w.params) H a (ns.map V.int)->sp w [.ref a] H (fun v _=>v=.bl true) fun _ _ _=>False)
  (hCX:∀(w:World) (H:Hp) (s:Shared) (e:Value) (s':Shared),CX w [] H s (fun _ _ _=>False) e s'->False) :
  PySem.W.WalkO q loose XP YP l.row.toRowW d [] (fun f vs=>PySem.call f vs):=by
 refine Att.attach_call hn hdf fun w s₀ s₁ mg mb fa o pm cd doc a vs ns G Y ho hd hcd hmg hobj hints hlen hg=>?_
 have KX:=hY w _ Y
 obtain ⟨fd,hb,hF⟩:=F w mg fa _ KX G.T.g hmg
 exact Cc KX G.T.g G.T.b G.T.builtins G.T.nolimit hg hobj hints (Nat.le_trans hlen hn2) hr hF hb (fun H hO hS=>hsp w H a ns hlen hO hS) fun H e s'=>hCX w H s₁ e s'
noncomputable def j9 (s:Stmt) (j:Nat):Stmt:=match s with
 |.ClassDef _ _ _ body _ _ _ _ _ _ _=>body.getD j (.Pass ⟨0,0,0,0⟩)
 |_=>.Pass ⟨0,0,0,0⟩
noncomputable def hR (s:Stmt):Arguments:=match s with
 |.FunctionDef _ a _ _ _ _ _ _ _ _=>a
 |_=>{ posonlyargs:=[],args:=[],vararg:=none,kwonlyargs:=[],kw_defaults:=[],kwarg:=none,defaults:=[] }
noncomputable def eS (s:Stmt):List Stmt:=match s with
 |.FunctionDef _ _ b _ _ _ _ _ _ _=>b
 |_=>[]
noncomputable def ao (s:Stmt):Scope:=match s with
 |.FunctionDef _ _ _ _ _ _ sc _ _ _=>sc
 |_=>{ kind:=.function,names:=[],isGenerator:=false,isCoroutine:=false }
noncomputable abbrev so:wJ:=fun _ _ _ _ _ _=>False
noncomputable abbrev E0:XK:=fun _ _ _=>False
structure Fun (K:Kd) (x qual:Str) (st:Stmt) (f:Addr) (fd:FuncData):Prop where
 ex:∃(oc:Value) (od:Option Addr) (kV doc pm:Value) (an:Option Addr) (cdv ct:Value) (osl:Array (Option Value)),
  fd=PySem.W.fnOf x qual (hR st) (eS st) (ao st) .none kV doc pm an cdv ct/\K.lookup f=some ⟨oc,od,.func fd,osl⟩/\PySem.W.codeIn K cdv qual=true
 kp:PySem.W.keepIn K (.ref f)=true
section
variable {P:Program} {w:World} {K:Kd} {mg:Str->Option Value} {base:Heap}
theorem Fun.ok {x qual:Str} {st:Stmt} {f:Addr} {fd:FuncData} {N ps:List Str} {k:Nat} {sp:Sp} (F:Fun K x qual st f fd) (S:FnScope N ps (ao st)) (len:∀vs H Q E,sp vs H Q E->vs.length=ps.length)
  (hbody:∀(cdv:Value) (A:Around) (outer:List Env) (s:Shared) (H:Hp) (vs:List V) (Q:VK) (E:XK),Room k (A.deeper (envOfC qual (ao st) s.heap.objs.size f cdv))->sp vs H Q E ->
   ∃t,qy (fu so P w K mg base N qual (ao st) f cdv A outer s H E).nox (eS st) t/\t { nx:=fun _ H'=>Q .non H',rt:=Q } (start N vs) H):FnOk P w K mg base so (k+1) f fd ps sp:=by
 obtain ⟨oc,od,kV,doc,pm,an,cdv,ct,osl,rfl,lk,hcd⟩:=F.ex
 refine Br lk hcd S len fun A outer s H vs Q E hr hsp=>?_
 obtain ⟨t,h,q⟩:=hbody cdv A outer s H vs Q E hr hsp
 exact ⟨t,h.nox,q⟩
theorem Fun.binds {x qual:Str} {st:Stmt} {f:Addr} {fd:FuncData} {ps:List Str} (F:Fun K x qual st f fd)
  (h:∀(kV doc pm:Value) (an:Option Addr) (cdv ct:Value) (us:List Value),us.length=ps.length->bindArgs (PySem.W.fnOf x qual (hR st) (eS st) (ao st) .none kV doc pm an cdv ct) ⟨us,[]⟩=pure (ps.zip us)):gh K fd ps []:=by
 obtain ⟨oc,od,kV,doc,pm,an,cdv,ct,osl,rfl,lk,hcd⟩:=F.ex
 exact .all (h kV doc pm an cdv ct)
theorem fD {x qual:Str} {st:Stmt} {f:Addr} {oc:Value} {od an:Option Addr} {osl:Array (Option Value)} {kV doc pm cdv ct:Value} (l:K.lookup f=some ⟨oc,od,.func (PySem.W.fnOf x qual (hR st) (eS st) (ao st) .none kV doc pm an cdv ct),osl⟩)
  (c:PySem.W.codeIn K cdv qual=true) (k:PySem.W.keepIn K (.ref f)=true):Fun K x qual st f (PySem.W.fnOf x qual (hR st) (eS st) (ao st) .none kV doc pm an cdv ct):=⟨⟨oc,od,kV,doc,pm,an,cdv,ct,osl,rfl,l,c⟩,k⟩
end
section
variable {X:Cx}
theorem pv (i:Nat) {x:Str} {pos:Pos} (hN:X.N[i]?=some x:=by rfl) (hv:Ir X.env.scope x:=by first|exact Or.inl rfl|exact Or.inr (Or.inl rfl)|exact Or.inr (Or.inr rfl)) (hd:(x==("__debug__" : Str))=false:=by decide)
  (hcd:(x==("__classdict__" : Str))=false:=by decide):PE X (.Name x pos) (gY i):=Gd hN hv hd hcd
end
theorem uM {A B:Prop} (h:B):if false=true then A else B:=by
 rw [if_neg Bool.false_ne_true]
 exact h
theorem vb {A B:Prop} (h:A):if true=true then A else B:=by
 rw [if_pos rfl]
 exact h
noncomputable def aD (H H':Hp):Prop:=∀b o,H b=some o->H' b=some o
theorem aD.refl (H:Hp):aD H H:=fun _ _ h=>h
theorem aD.trans {H H1 H2:Hp} (a:aD H H1) (b:aD H1 H2):aD H H2:=fun c o h=>b c o (a c o h)
theorem aD.free {H H':Hp} (e:aD H H') {l:Addr} (h:H' l=Option.none):H l=Option.none:=by
 cases q:H l with
 |none=>rfl
 |some o=>
  rw [e l o q] at h
  cases h
theorem aD.seq {K:Kd} {H H':Hp} {a:Addr} {xs:List V} (e:aD H H') (h:gg K H a xs):gg K H' a xs:=by
 rcases h with (h|⟨o,h⟩)|h
 ·exact .inl (.inl (e _ _ h))
 ·exact .inl (.inr ⟨o,e _ _ h⟩)
 ·exact .inr h
end L2
set_option maxHeartbeats 4000000
namespace L2
open PySem PySem.Spec PyProof.Rows
noncomputable def gi (cells:List (Str×Addr)):List (Str×NameKind)->List (Str×Addr)->List (Str×Addr)
 |[],acc=>acc
 |(n,k)::r,acc=>if (k==NameKind.free)=true then (match cells.lookup n with|some c=>gi cells r ((n,c)::acc)|none=>gi cells r acc) else gi cells r acc
theorem qb {env:Env}:∀(names:List (Str×NameKind)) (acc:List (Str×Addr)),(∀y∈names,y.2=.free->∃c,env.cells.lookup y.1=some c) ->
  (forIn names acc fun (x:Str×NameKind) (r:List (Str×Addr))=>(do
   if (x.2==NameKind.free)=true then do
    let c <-cellOf env x.1
    pure (ForInStep.yield ((x.1,c)::r))
   else pure (ForInStep.yield r):Sem (ForInStep (List (Str×Addr)))))=pure (gi env.cells names acc)
 |[],acc,_=>rfl
 |(n,k)::r,acc,h=>by
  rw [List.forIn_cons]
  by_cases hk:k=.free
  ·subst hk
   obtain ⟨c,hc⟩:=h (n,.free) JZ rfl
   have e1:cellOf env n=pure c:=by unfold cellOf; rw [show env.cells.lookup n=some c from hc]
   simp only [beq_self_eq_true,if_true,e1,pure_bind,gi]
   rw [show env.cells.lookup n=some c from hc]
   exact qb r _ fun y hy=>h y (JY _ hy)
  ·have hb:(k==NameKind.free)=false:=by simpa using hk
   simp only [hb,Bool.false_eq_true,if_false,pure_bind,gi]
   exact qb r _ fun y hy=>h y (JY _ hy)
theorem ye {scope:Scope} {env:Env} (h:∀y∈scope.names,y.2=.free->∃c,env.cells.lookup y.1=some c):closureFor scope env=pure (gi env.cells scope.names []):=by
 have e:=qb (env:=env) scope.names [] h
 unfold closureFor
 rw [<-bind_pure (pure (gi env.cells scope.names []):Sem (List (Str×Addr))),<-e]
theorem g9 {h:Heap} {b:Addr} {n:Nat} {o:Obj} (h1:h.get? b=some o) (h2:h.objs.size<=n):b≠n:=fun z=>absurd (J8 h1) (by rw [z]; exact Nat.not_lt.mpr h2)
theorem dJ {a:Nat} {b:Addr} {n:Nat} (h1:b<a) (h2:a<=n):b≠n:=fun z=>absurd h1 (by rw [z]; exact Nat.not_lt.mpr h2)
theorem bZ {cells:List (Str×Addr)} {x:Str} {c:Addr}:∀{names:List (Str×NameKind)} {acc:List (Str×Addr)},(∀d,acc.lookup x=some d->cells.lookup x=some d)->(gi cells names acc).lookup x=some c->cells.lookup x=some c
 |[],acc,ha,h=>ha c h
 |(n,k)::r,acc,ha,h=>by
  unfold gi at h
  split at h
  ·split at h
   ·rename_i d hd
    refine bZ (names:=r) (fun e he=>?_) h
    by_cases hx:x=n
    ·subst hx
     simp only [List.lookup_cons,beq_self_eq_true] at he
     rw [hd]; exact he
    ·have hb:(x==n)=false:=by simpa using hx
     simp only [List.lookup_cons,hb] at he
     exact ha e he
   ·exact bZ (names:=r) ha h
  ·exact bZ (names:=r) ha h
theorem kg {cells:List (Str×Addr)} {x:Str}:∀{names:List (Str×NameKind)} {acc:List (Str×Addr)},(∃d,acc.lookup x=some d)->∃c,(gi cells names acc).lookup x=some c
 |[],acc,h=>h
 |(n,k)::r,acc,h=>by
  unfold gi
  split
  ·split
   ·rename_i d hd
    refine kg (names:=r) ?_
    by_cases hx:x=n
    ·subst hx; exact ⟨d,by simp [List.lookup_cons]⟩
    ·have hb:(x==n)=false:=by simpa using hx
     obtain ⟨e,he⟩:=h
     exact ⟨e,by simpa [List.lookup_cons,hb] using he⟩
   ·exact kg (names:=r) h
  ·exact kg (names:=r) h
theorem kl {cells:List (Str×Addr)} {x:Str} {c:Addr} (hc:cells.lookup x=some c):∀{names:List (Str×NameKind)} {acc:List (Str×Addr)},(x,NameKind.free)∈names->∃d,(gi cells names acc).lookup x=some d
 |[],_,h=>nomatch h
 |(n,k)::r,acc,h=>by
  rcases List.mem_cons.mp h with e|h
  ·cases e
   unfold gi
   rw [if_pos 0x4]
   rw [hc]
   exact kg ⟨c,by simp [List.lookup_cons]⟩
  ·unfold gi
   split
   ·split <;> exact kl hc (names:=r) h
   ·exact kl hc (names:=r) h
theorem gj {env:Env} {x:Str}:∀{names:List (Str×NameKind)} {k:NameKind},
  (names.map fun (n,k)=>if (k==NameKind.free&&env.scope.kind==.function&&env.kindOf n==some .cell) then (n,NameKind.cell) else (n,k)).lookup x=some k ->
  names.lookup x=some k\/(k=.cell/\names.lookup x=some .free)
 |[],k,h=>by simp at h
 |(n,k0)::r,k,h=>by
  have ih:=@gj env x r k
  rw [List.map_cons] at h
  by_cases hx:x=n
  ·subst hx
   by_cases hc:(k0==NameKind.free&&env.scope.kind==.function&&env.kindOf x==some .cell)=true
   ·simp only [hc,if_true,List.lookup_cons,beq_self_eq_true] at h
    have h0:k0=.free:=by
     simp only [Bool.and_eq_true,beq_iff_eq] at hc
     exact hc.1.1
    subst h0
    cases h
    exact .inr ⟨rfl,by simp [List.lookup_cons]⟩
   ·have hc':(k0==NameKind.free&&env.scope.kind==.function&&env.kindOf x==some .cell)=false:=by simpa using hc
    simp only [hc',Bool.false_eq_true,if_false,List.lookup_cons,beq_self_eq_true] at h
    cases h
    exact .inl (by simp [List.lookup_cons])
  ·have hb:(x==n)=false:=by simpa using hx
   have e1:∀(c:Bool),List.lookup x ((if c=true then (n,NameKind.cell) else (n,k0))::(r.map fun (n,k)=>if (k==NameKind.free&&env.scope.kind==.function&&env.kindOf n==some .cell) then (n,NameKind.cell) else (n,k)))=List.lookup x (r.map fun (n,k)=>if (k==NameKind.free&&env.scope.kind==.function&&env.kindOf n==some .cell) then (n,NameKind.cell) else (n,k)):=fun c=>by
    cases c <;> simp [List.lookup_cons,hb]
   have h':=(e1 _).symm.trans h
   rcases ih h' with q|⟨q1,q2⟩
   ·exact .inl (by simpa [List.lookup_cons,hb] using q)
   ·exact .inr ⟨q1,by simpa [List.lookup_cons,hb] using q2⟩
theorem fW {x:Str} {k:NameKind}:∀{names:List (Str×NameKind)},names.lookup x=some k->(x,k)∈names
 |[],h=>by simp at h
 |(n,k0)::r,h=>by
  by_cases hx:x=n
  ·subst hx
   simp only [List.lookup_cons,beq_self_eq_true] at h
   cases h; exact JZ
  ·have hb:(x==n)=false:=by simpa using hx
   simp only [List.lookup_cons,hb] at h
   exact JY _ (fW h)
noncomputable def jt (k:Nat) (js:List Nat) (σ:St):St:=List.replicate k none++js.map fun j=>(σ[j]?).join
noncomputable def aT (X:Cx) (N':List Str) (scope:Scope) (C:Addr) (s₂:Shared) (H₂:Hp) (fp:List Addr):Cx where
 prog:=X.prog
 w:=X.w
 K:=X.K
 mg:=X.mg
 base:=X.base
 A:=X.A
 N:=N'
 s₀:=s₂
 H₀:=H₂
 env:=compEnvC scope (gi X.env.cells scope.names []) C X.env
 outer:=X.stack
 stack:=X.stack
 ex:=fp
 fn:=fun _=>false
 calm:=X.calm
 pn:=[]
 xe:=fun _ _=>False
structure CompFit (X:Cx) (k:Nat) (js:List Nat) (N':List Str) (scope:Scope):Prop where
 kind:scope.kind=.function
 nocell:∀y∈scope.names,y.2≠.cell
 loc:∀y∈scope.names,y.2=.local->scope.names.lookup y.1=some .local
 free:∀y∈scope.names,y.2=.free->X.env.kindOf y.1=some .cell\/X.env.kindOf y.1=some .free
 len:N'.length=k+js.length
 at':∀(i:Nat) (x:Str),N'[i]?=some x->k<=i->∃j,js[i-k]?=some j/\X.N[j]?=some x/\(X.env.kindOf x=some .cell\/X.env.kindOf x=some .free)/\scope.names.lookup x=some .free
section
variable {X:Cx} {pins:List (Addr×Obj)} {σ:St} {H:Hp} {s:Shared} {k:Nat} {js:List Nat} {N':List Str} {scope:Scope}
theorem Ec {C:Addr} {fp:List Addr} (I:Inv X pins σ H s) (S:CompFit X k js N' scope) (hC:s.heap.objs.size<=C) (hf:∀b∈fp,nS X pins H b/\b<s.heap.objs.size):(aT X N' scope C s H fp).Ok where
 mod:=I.ok.mod
 kind:=S.kind
 glob:=I.ok.glob
 blt:=I.ok.blt
 above:=hC
 inj:=fun x y c h1 h2=>I.ok.inj x y c (bZ (fun d hd=>by simp at hd) h1) (bZ (fun d hd=>by simp at hd) h2)
 has:=fun x hx=>by
  have hx':(relabel scope X.env).names.lookup x=some .cell\/(relabel scope X.env).names.lookup x=some .free:=hx
  have hfree:scope.names.lookup x=some .free:=by
   rcases hx' with h|h
   ·rcases gj h with q|⟨_,q⟩
    ·exact absurd rfl (S.nocell _ (fW q))
    ·exact q
   ·rcases gj h with q|⟨e,_⟩
    ·exact q
    ·cases e
  obtain ⟨c,hc⟩:=I.ok.has x (S.free _ (fW hfree) rfl)
  exact kl hc (fW hfree)
 cab:=fun x c h _=>nomatch h
 hd:=I.ok.hd
 frames:=I.ok.frames
 stk:=.inl rfl
 exf:=fun b hb=>⟨fun e=>absurd (hf b hb).2 (by have e':b=C:=e; rw [e']; exact Nat.not_lt.mpr hC),fun x c h=>(hf b hb).1.2.2.2.2.1 x c (bZ (fun d hd=>by simp at hd) h)⟩
 bs:=I.bs
 bsz:=Nat.le_trans I.ok.bsz I.sz
 noex:=fun b o e hb=>by
  rcases (hf b hb).1.2.2.2.1 with z|z
  ·exact I.ok.noex b o e z
  ·exact absurd (Nat.lt_of_lt_of_le (J8 e) (Nat.le_trans I.ok.bsz z)) (Nat.lt_irrefl _)
 exfs:=fun b hb z=>by
  rcases List.mem_cons.mp (I.stkSub b z) with e|e
  ·exact (hf b hb).1.2.1 e
  ·exact (hf b hb).1.2.2.1 e
 funs:=I.stack
 frf:=I.stkFree
theorem oC {C:Addr} {fp:List Addr} {h₁:Heap} {tk:Nat} {m:Str->Option Value} (I:Inv X pins σ H s) (S:CompFit X k js N' scope) (hC:s.heap.objs.size<=C) (hf:∀b∈fp,nS X pins H b/\b<s.heap.objs.size)
  (old:∀b o,s.heap.get? b=some o->h₁.get? b=some o) (hn:h₁.Ns C m):Inv (aT X N' scope C s H fp) [] (jt k js σ) H { s with heap:=h₁,toks:=tk }:=by
 refine ⟨Ec I S hC hf,rfl,I.bare,Un.kept old,⟨m,hn,fun i x v h1 h2 h3=>?_⟩,fun x c h=>?_,I.hok.fresh hC,fun x c h=>I.freeC x c (bZ (fun d hd=>by simp at hd) h),fun p hp=>absurd (show p∈([]:List (Addr×Obj)) from hp) 0x4,I.hok.kept old,?_⟩
 ·have hi:k<=i:=by
   by_cases hi:k<=i
   ·exact hi
   ·unfold jt at h2
    rw [List.getElem?_append_left (by simp; lia),List.getElem?_replicate] at h2
    split at h2 <;> cases h2
  obtain ⟨j,hj,hN,hk,hfree⟩:=S.at' i x h1 hi
  have hσ:σ[j]?=some (some v):=by
   unfold jt at h2
   rw [List.getElem?_append_right (by simpa using hi),List.length_replicate,List.getElem?_map,hj] at h2
   simp only [Option.map_some] at h2
   have h2':(σ[j]?).join=some v:=Option.some.inj h2
   cases e:σ[j]? with
   |none=>rw [e] at h2'; cases h2'
   |some z=>rw [e] at h2'; simp only [Option.join] at h2'; rw [<-h2']; rfl
  obtain ⟨m0,hn0,hl⟩:=I.loc
  have hv:Ir X.env.scope x:=by
   rcases hk with h|h
   ·exact .inr (.inl h)
   ·exact .inr (.inr h)
  obtain ⟨u,r,l⟩:=hl j x v hN hσ hv
  refine ⟨u,r,?_⟩
  rcases l with ⟨hk',_⟩|⟨_,c,hc,hcell⟩
  ·rcases hk with h|h <;> (rw [hk'] at h; cases h)
  ·obtain ⟨d,hd⟩:=kl (names:=scope.names) (acc:=[]) hc (fW hfree)
   have hdc:d=c:=Option.some.inj ((bZ (fun d hd=>by simp at hd) hd).symm.trans hc)
   subst hdc
   refine .inr ⟨?_,d,hd,hcell.keeps old⟩
   have h3':(relabel scope X.env).names.lookup x=some .local\/(relabel scope X.env).names.lookup x=some .cell\/(relabel scope X.env).names.lookup x=some .free:=h3
   rcases h3' with h|h|h
   ·rcases gj h with q|⟨e,_⟩
    ·rw [hfree] at q; cases q
    ·cases e
   ·exact .inl h
   ·exact .inr h
 ·obtain ⟨v,hv⟩:=I.cell x c (bZ (fun d hd=>by simp at hd) h)
  exact ⟨v,hv.keeps old⟩
 ·unfold jt
  show _=N'.length
  rw [List.length_append,List.length_replicate,List.length_map,S.len]
end
section
variable {prog:Program} {w:World} {A:Around} {R:Result->Shared->Prop} {s:Shared}
noncomputable def EX:Value->Shared->Prop:=fun _ _=>False
theorem qv {elt target iter:Expr} {ifs:List Expr} {scope:Scope} {pos:Pos} {it acc:Value} {env:Env} (I:Nat->Shared->Prop)
  (turn:∀n s,I n s->wpAny (model prog w) A (pyNext it) (fun r s₁=>match r with
   |none=>R (.ok .next) s₁
   |some v=>wpAny (model prog w) A (letOwnedTupleGo target it v) (fun _ s₁'=>wpAny (model prog w) A (assign target env v) (fun _ s₂=>
     wpAny (model prog w) A (forIn ifs true fun c r=>if r=true then (do let ok <-isTrue c env (eval c env); pure (ForInStep.yield ok)) else pure (ForInStep.yield r)) (fun ok s₃=>
      if ok=true then wpAny (model prog w) A (eval elt env) (fun x s₄=>wpAny (model prog w) A (call (.builtin "list.append") [acc,x]) (fun _ s₅=>∃m,m<n/\I m s₅) EX s₄) EX s₃
      else ∃m,m<n/\I m s₃) EX s₂) EX s₁') EX s₁) EX s)
  (n:Nat) (h:I n s):codeAny (model prog w) A (.compLoop (.ListComp elt [⟨target,iter,ifs,0⟩] scope pos) 0 it acc env) R s:=by
 refine codeAny_loop rfl I (fun n s hI=>?_) n h
 refine wpAny_noted (m:=compTurn (.ListComp elt [⟨target,iter,ifs,0⟩] scope pos) 0 it acc env) ?_
 rw [compTurn_list]
 refine J6 (wpAny_standAt (J6 (wpAny_mono (turn n s hI) (fun r s₁ h₁=>?_) fun _ _ h'=>h'.elim)))
 cases r with
 |none=>exact J7 h₁
 |some v=>
  refine J6 (wpAny_mono h₁ (fun _ s₁' h₁'=>?_) fun _ _ h'=>h'.elim)
  refine J6 (wpAny_mono h₁' (fun _ s₂ h₂=>J6 (wpAny_mono h₂ (fun ok s₃ h₃=>?_) fun _ _ h'=>h'.elim)) fun _ _ h'=>h'.elim)
  cases ok with
  |false=>exact J7 ⟨rfl,h₃⟩
  |true=>
   refine J6 (J6 (wpAny_mono h₃ (fun x s₄ h₄=>?_) fun _ _ h'=>h'.elim))
   exact J6 (wpAny_mono h₄ (fun _ s₅ h₅=>J7 (J7 ⟨rfl,h₅⟩)) fun _ _ h'=>h'.elim)
end
noncomputable def PF (X:Cx) (ifs:List Expr) (t:TT):Prop:=
 ∀(pins:List (Addr×Obj)) (s:Shared) (σ:St) (H:Hp) (Q:Bool->Hp->Prop),Inv X pins σ H s->t σ H Q ->
  wpAny (model X.prog X.w) X.A (forIn ifs true fun c r=>if r=true then (do let ok <-isTrue c X.env (eval c X.env); pure (ForInStep.yield ok)) else pure (ForInStep.yield r)) (TP X pins σ Q) X.xe s
noncomputable def IA:TT:=fun _ H Q=>Q true H
theorem FX {X:Cx}:PF X [] IA:=fun _ _ _ H _ I h=>wpAny_tests_nil ⟨H,I,h⟩
theorem mB {X:Cx} {c:Expr} {t:TT} (h:PT X c t):PF X [c] t:=fun pins s σ H Q I hw=>wpAny_tests_one (h pins s σ H Q I hw)
noncomputable def yd (wi:TI) (k:Nat) (js:List Nat) (g:TG) (tc:TT) (te:TE):TE:=fun σ H Q=>wi σ H fun J H1=>∃W:Nat->Nat->St->Hp->List V->Prop,(∃m,W 0 m (jt k js σ) H1 [])/\∀i m σ' H' xs,W i m σ' H' xs ->
 (J.stop i H'/\xs.length<=sizeLine/\∀p,H' p=none->Q (.ref p) (upd H' p (.lst xs))) \/
 (J.go i H'/\xs.length<sizeLine/\∀x H2,J.yld i H' x H2->g x σ' H2 fun σ2 H3=>tc σ2 H3 fun b H4=>if b=true then te σ2 H4 fun v H5=>∃m',m'<m/\W (i+1) m' σ2 H5 (xs++[v]) else ∃m',m'<m/\W (i+1) m' σ2 H4 xs)
section
variable {X:Cx} {k:Nat} {js:List Nat} {N':List Str} {scope:Scope} {elt tg iter:Expr} {ifs:List Expr} {pos:Pos} {wi:TI} {g:TG} {tc:TT} {te:TE}
theorem CH (S:CompFit X k js N' scope) (hc:X.calm=true) (hi:PI X tg iter wi)
  (hg:∀C s₂ H₂ fp,PG (aT X N' scope C s₂ H₂ fp) tg g) (hf:∀C s₂ H₂ fp,PF (aT X N' scope C s₂ H₂ fp) ifs tc) (he:∀C s₂ H₂ fp,PE (aT X N' scope C s₂ H₂ fp) elt te)
  (hs:∀x,foldedSetIterable iter X.env x=pure x:=by intro _; rfl):PE X (.ListComp elt [⟨tg,iter,ifs,0⟩] scope pos) (yd wi k js g tc te):=by
 intro pins s σ H Q I h
 rw [eval_ListComp]
 refine wpAny_comprehension_free (use:=none) rfl hs (ye fun y hy hk=>I.ok.has y.1 (S.free y hy hk)) S.kind S.loc ?_
 refine bS (hi pins s σ H _ I h) fun v s1 h1=>bS h1 fun itv s₂ h2=>?_
 obtain ⟨it,fp,tn,J,H₂,rfl,I2,T,st2,f2,W,⟨m0,w0⟩,turn⟩:=h2
 have lt2:∀b∈fp,b<s₂.heap.objs.size:=fun b hb=>by obtain ⟨o,e,_⟩:=T.obj 0 _ st2 b hb; exact J8 e
 refine wpAny_newObj_type (wpAny_newFunctionEnv S.nocell (by intro y hy; simp at hy) (fun h₁ hns₁ hsb₁=>?_) S.kind)
 dsimp only at hns₁ hsb₁ ⊢
 generalize hH2:s₂.heap.push { cls:=.type "list",dict:=none,data:=.seq ([]:List Value).toArray }=G at hns₁ hsb₁ ⊢
 have hC:G.objs.size=s₂.heap.objs.size+1:=by rw [<-hH2,Heap.size_push]
 have hDC:s₂.heap.objs.size≠G.objs.size:=by lia
 have hCle:s₂.heap.objs.size<=G.objs.size:=by lia
 have old:∀b o,s₂.heap.get? b=some o->h₁.get? b=some o:=fun b o e=>hsb₁.extBut b o (g9 e hCle) (J0 _ (hH2▸J0 _ e))
 have hacc:h₁.get? s₂.heap.objs.size=some { cls:=.type "list",data:=.seq ([]:List Value).toArray }:=hsb₁.extBut _ _ hDC (J0 _ (hH2▸Heap.get?_push_size _ rfl))
 have hf2:∀b∈fp,nS X pins H₂ b/\b<s₂.heap.objs.size:=fun b hb=>⟨f2 b hb,lt2 b hb⟩
 have I0:∀tk,Inv (aT X N' scope G.objs.size s₂ H₂ fp) [] (jt k js σ) H₂ { s₂ with heap:=h₁,toks:=tk }:=fun tk=>oC I2 S hCle hf2 old hns₁
 generalize hD:s₂.heap.objs.size=D at *
 have hDnone:∀{H':Hp} {s':Shared} {σ':St} {pp:List (Addr×Obj)} {o:Obj},Inv (aT X N' scope G.objs.size s₂ H₂ fp) (pp++[(D,o)]) σ' H' s'->H' D=none/\s'.heap.get? D=some o:=fun {H' s' σ' pp o} J=>by
  have q:=J.pin (D,o) (J2 _ (J2 _ (List.mem_singleton.mpr rfl)))
  exact ⟨q.2.1,q.1⟩
 have hDfs:D∉ir X.stack:=fun z=>by
  obtain ⟨_,o,ho,_⟩:=I2.stack.mem z
  exact g9 ho (Nat.le_of_eq hD) rfl
 have hDcell:∀x c,(aT X N' scope G.objs.size s₂ H₂ fp).env.cells.lookup x=some c->c≠D:=fun x c e z=>by
  obtain ⟨v,q⟩:=I2.cell x c (bZ (fun d hd=>by simp at hd) e)
  exact dJ q.lt (Nat.le_of_eq hD) z
 have stat:∀{H':Hp} {pp:List (Addr×Obj)},(∀b∈fp,H' b=none)->(∀p∈pp,p.1=D)->∀b∈fp,nS (aT X N' scope G.objs.size s₂ H₂ fp) pp H' b:=fun {H' pp} hn hp b hb=>by
  refine ⟨hn b hb,fun z=>?_,fun z=>?_,.inl hb,fun x c e=>(hf2 b hb).1.2.2.2.2.1 x c (bZ (fun d hd=>by simp at hd) e),fun p hp' z=>?_⟩
  ·exact dJ (lt2 b hb) hCle z
  ·rcases List.mem_cons.mp (I2.stkSub b z) with e|e
   ·exact (hf2 b hb).1.2.1 e
   ·exact (hf2 b hb).1.2.2.1 e
  ·have e1:p.1=D:=hp p (by simpa [aT] using hp')
   exact dJ (lt2 b hb) (J5 _) (z.symm.trans e1)
 have pinD:∀{σ':St} {H':Hp} {s':Shared} {ys:List Value} {c:Nat},Inv (aT X N' scope G.objs.size s₂ H₂ fp) [] σ' H' s'->s'.heap.get? D=some { cls:=.type "list",data:=.seq ys.toArray c }->H' D=none ->
   Inv (aT X N' scope G.objs.size s₂ H₂ fp) [(D,{ cls:=.type "list",data:=.seq ys.toArray c })] σ' H' s':=fun {σ' H' s' ys c} J e n=>J.pins_of fun p hp=>by
  have e1:=List.mem_singleton.mp hp
  subst e1
  exact ⟨e,n,hDC,hDfs,fun v z=>by cases z⟩
 have loop:∀s₃:Shared,(∃tk,s₃={ s₂ with heap:=h₁,toks:=tk })->codeAny (model X.prog X.w) X.A (.compLoop (.ListComp elt [⟨tg,iter,ifs,0⟩] scope pos) 0 (.ref it) (.ref D) (aT X N' scope G.objs.size s₂ H₂ fp).env)
   (compPost (model X.prog X.w) X.A X.xe none (EP X pins σ Q) (.ref D) G.objs.size) s₃:=by
  rintro s₃ ⟨tk,rfl⟩
  refine qv (fun n s'=>∃i σ' H' xs ys c,Inv (aT X N' scope G.objs.size s₂ H₂ fp) [] σ' H' s'/\tn i s'.heap/\(∀b∈fp,H' b=none)/\H' D=none/\s'.heap.get? D=some { cls:=.type "list",data:=.seq ys.toArray c }/\aQ xs ys/\W i n σ' H' xs)
   ?_ m0 ⟨0,_,H₂,[],[],0,I0 tk,T.keep _ _ _ st2 fun b hb o e=>old b o e,fun b hb=>(f2 b hb).1,I2.hok.fresh 0x1,hacc,.nil,w0⟩
  rintro n s' ⟨i,σ',H',xs,ys,c,J',st',fr',nD,eD,rv,w'⟩
  have J1:=pinD J' eD nD
  rcases turn i n σ' H' xs w' with ⟨stop,hz,fin⟩|⟨go,hz,step⟩
  ·refine bS (T.done (aT X N' scope G.objs.size s₂ H₂ fp) rfl rfl rfl hc i _ s' σ' H' _ J1 (stat fr' fun p hp=>by rw [List.mem_singleton.mp hp]) st' stop) fun r s4 ⟨hr,J4⟩=>?_
   subst hr
   obtain ⟨nD4,eD4⟩:=hDnone (pp:=[]) J4
   obtain ⟨mC,hnC,_⟩:=J4.loc
   refine ⟨mC,hnC,fun h' hs'=>?_⟩
   have keep4:∀b o,b≠G.objs.size->s4.heap.get? b=some o->h'.get? b=some o:=fun b o hb e=>hs'.extBut b o hb e
   have hC4:H' G.objs.size=none:=J4.free
   have hun:Un (ir X.stack) fp H₂ (upd H' D (.lst xs)) s₂.heap h':=by
    have u:=J4.base
    have neD:∀b o,s₂.heap.get? b=some o->b≠D:=fun b o e=>g9 e (Nat.le_of_eq hD)
    have neC:∀b o,s₂.heap.get? b=some o->b≠G.objs.size:=fun b o e=>g9 e (by rw [hD]; exact hCle)
    have neD':∀b o,H₂ b=some o->b≠D:=fun b o e=>dJ (I2.hok.lt e) (Nat.le_of_eq hD)
    refine ⟨fun b o e n hb hx=>keep4 b o (neC b o e) (u.keep b o e n hb hx),fun b o e n hb hx=>?_,fun b o e n hx=>by rw [aA (neD b o e)]; exact u.free b o e n hx,fun b o e hx=>?_,
     fun b xs e=>by rw [aA (neD' b _ e)]; exact u.tups b xs e,fun b o z e=>by rw [aA (neD' b _ e)]; exact u.frzs b o z e,fun b ps e=>by rw [aA (neD' b _ e)]; exact u.tbls b ps e⟩
    ·obtain ⟨sl,q⟩:=u.slot b o e n hb hx
     exact ⟨sl,keep4 b _ (neC b o e) q⟩
    ·obtain ⟨o',q⟩:=u.there b o e hx
     exact ⟨o',keep4 b _ (neC b o e) q⟩
   have hok4:kx X.prog X.w (upd H' D (.lst xs)) h':=by
    intro b u e
    by_cases hb:b=D
    ·subst hb
     rw [aN] at e
     cases e
     exact ⟨hz,ys,c,rv,keep4 _ _ hDC eD4⟩
    ·rw [aA hb] at e
     have hnD:∀a o,H' a=some o->a≠D:=fun a o e z=>by rw [z,nD4] at e; cases e
     refine (J4.hok b u e).stay (fun a v ha q=>keep4 a v ?_ q) (fun a q=>by rw [aA (hnD a _ q)]; exact q) fun a zs q=>by rw [aA (hnD a _ q)]; exact q
     rintro rfl
     rcases ha with z|z
     ·rw [<-z,hC4] at e; cases e
     ·rw [hC4] at z; cases z
   refine ⟨.ref D,upd H' D (.lst xs),I2.call' (s':={ s4 with heap:=h' }) J4.os hun hok4 J4.bare fun b hb=>?_,rfl,fin D nD4⟩
   exact ⟨(f2 b hb).2.2.2.1,(f2 b hb).2.1,(f2 b hb).2.2.2.2.1,(f2 b hb).2.2.2.2.2⟩
  ·refine bS (T.item (aT X N' scope G.objs.size s₂ H₂ fp) rfl rfl rfl hc i _ s' σ' H' EX J1 (stat fr' fun p hp=>by rw [List.mem_singleton.mp hp]) st' go) fun r s4 ⟨u,hr,h4⟩=>?_
   subst hr
   refine bS h4 fun _ s5 ⟨x,H5,I5,r5,y5,st5,fr5⟩=>?_
   have I5':=I5.pinned (stat fr5 fun p hp=>by rw [List.mem_singleton.mp hp]) (T.obj _ _ st5)
   refine bS (hg _ _ _ _ _ s5 σ' H5 x u _ I5' r5 (step x H5 y5)) fun _ s6 ⟨σ6,H6,I6,q6⟩=>?_
   refine bS (hf _ _ _ _ _ s6 σ6 H6 _ I6 q6) fun ok s7 ⟨H7,I7,q7⟩=>?_
   have back:∀{σ8:St} {H8:Hp} {s8:Shared},Inv (aT X N' scope G.objs.size s₂ H₂ fp) ([(D,{ cls:=.type "list",data:=.seq ys.toArray c })]++mz fp s5.heap) σ8 H8 s8 ->
     Inv (aT X N' scope G.objs.size s₂ H₂ fp) [] σ8 H8 s8/\tn (i+1) s8.heap/\(∀b∈fp,H8 b=none)/\H8 D=none/\s8.heap.get? D=some { cls:=.type "list",data:=.seq ys.toArray c }:=fun {σ8 H8 s8} J=>by
    have pd:=J.pin (D,{ cls:=.type "list",data:=.seq ys.toArray c }) (J2 _ (J3 _ (List.mem_singleton.mpr rfl)))
    have pf:∀b∈fp,∀o,s5.heap.get? b=some o->s8.heap.get? b=some o/\H8 b=none:=fun b hb o e=>by
     have q:=J.pin (b,o) (J2 _ (J2 _ (iR hb e)))
     exact ⟨q.1,q.2.1⟩
    refine ⟨J.pins_of fun p hp=>absurd hp 0x4,T.keep _ _ _ st5 fun b hb o e=>(pf b hb o e).1,fun b hb=>?_,pd.2.1,pd.1⟩
    obtain ⟨o,e,_⟩:=T.obj _ _ st5 b hb
    exact (pf b hb o e).2
   cases ok with
   |false=>
    simp only [Bool.false_eq_true,if_false] at q7 ⊢
    obtain ⟨m',hm,w7⟩:=q7
    obtain ⟨b1,b2,b3,b4,b5⟩:=back I7
    exact ⟨m',hm,i+1,σ6,H7,xs,ys,c,b1,b2,b3,b4,b5,rv,w7⟩
   |true=>
    simp only [if_true] at q7 ⊢
    refine bS (he _ _ _ _ _ s7 σ6 H7 _ I7 q7) fun u8 s8 ⟨v8,H8,I8,r8,q8⟩=>?_
    obtain ⟨m',hm,w8⟩:=q8
    obtain ⟨b1,b2,b3,b4,b5⟩:=back I8
    refine append_at b5 (fun h9 hs9 e9=>?_) (by rw [List.size_toArray,<-rv.length]; exact Nat.le_of_lt hz)
    have I9:Inv (aT X N' scope G.objs.size s₂ H₂ fp) [] σ6 H8 { s8 with heap:=h9 }:=b1.turned (t':=s8.toks) (it:=D) (fun b o hb e=>(hs9.2 b hb).trans e) b4 hDC (.inr (by show s₂.heap.objs.size<=D; lia)) hDcell fun p hp=>absurd (show p∈([]:List (Addr×Obj)) from hp) 0x4
    refine ⟨m',hm,i+1,σ6,H8,xs++[v8],ys++[u8],c+1,I9,T.keep _ _ _ b2 fun b hb o e=>(hs9.2 b ?_).trans e,b3,b4,?_,aQ.append rv (.cons r8 .nil),w8⟩
    ·exact dJ (lt2 b hb) (J5 _)
    ·rw [e9,List.push_toArray]
 exact codeAny_compStart_list (loop _ ⟨_,rfl⟩) (T.self _ 0 _ _ _ (T.keep _ _ _ st2 fun b hb o e=>old b o e) (loop _ ⟨_,rfl⟩))
end
end L2
set_option autoImplicit false
namespace L3
open PySem PySem.Spec L2
open PyProof.Rows hiding St
mutual
noncomputable def cQ:PyData->Bool
 |.int _=>true
 |.tuple xs=>fx xs
 |_=>false
noncomputable def fx:List PyData->Bool
 |[]=>true
 |x::r=>cQ x&&fx r
end
mutual
noncomputable def vh:PyData->Int
 |.int n=>hashInt n
 |.tuple xs=>reduceHash (Builtin.Tuple.tupleHashOf (lP xs))
 |_=>0
noncomputable def lP:List PyData->List Int
 |[]=>[]
 |x::r=>vh x::lP r
end
mutual
noncomputable def i9:PyData->Nat
 |.tuple xs=>oo xs+1
 |_=>1
noncomputable def oo:List PyData->Nat
 |[]=>0
 |x::r=>i9 x+oo r
end
mutual
theorem oj:∀d:PyData,cQ d=true->d.canLay0=true
 |.int _,_=>rfl
 |.tuple xs,h=>by unfold PyData.canLay0; exact uO xs (by unfold cQ at h; exact h)
 |.none,h|.bool _,h|.str _,h|.list _,h|.dict _,h=>by simp [cQ] at h
theorem uO:∀ds:List PyData,fx ds=true->PyData.canLayAll0 ds=true
 |[],_=>rfl
 |x::r,h=>by
  unfold fx at h
  rw [Bool.and_eq_true] at h
  unfold PyData.canLayAll0
  rw [oj x h.1,uO r h.2]; rfl
end
mutual
theorem yD:∀x y:PyData,cQ x=true->cQ y=true->(PyData.eqv x y=true↔x=y)
 |.int a,.int b,_,_=>by unfold PyData.eqv; simp
 |.int a,.tuple ys,_,_=>by unfold PyData.eqv; simp
 |.tuple xs,.int b,_,_=>by unfold PyData.eqv; simp
 |.tuple xs,.tuple ys,h,h'=>by
  unfold PyData.eqv
  unfold cQ at h h'
  rw [uQ xs ys h h']; simp
 |.none,_,h,_|.bool _,_,h,_|.str _,_,h,_|.list _,_,h,_|.dict _,_,h,_=>by simp [cQ] at h
 |.int _,.none,_,h|.int _,.bool _,_,h|.int _,.str _,_,h|.int _,.list _,_,h|.int _,.dict _,_,h=>by simp [cQ] at h
 |.tuple _,.none,_,h|.tuple _,.bool _,_,h|.tuple _,.str _,_,h|.tuple _,.list _,_,h|.tuple _,.dict _,_,h=>by simp [cQ] at h
theorem uQ:∀xs ys:List PyData,fx xs=true->fx ys=true->(PyData.eqvAll xs ys=true↔xs=ys)
 |[],[],_,_=>by unfold PyData.eqvAll; simp
 |[],_::_,_,_=>by unfold PyData.eqvAll; simp
 |_::_,[],_,_=>by unfold PyData.eqvAll; simp
 |x::r,y::t,h,h'=>by
  unfold fx at h h'
  rw [Bool.and_eq_true] at h h'
  unfold PyData.eqvAll
  rw [Bool.and_eq_true,yD x y h.1 h'.1,uQ r t h.2 h'.2]; simp
end
section
variable {prog:Program} {w:World} {E:Value->Shared->Prop}
mutual
theorem uC:∀(d:PyData) (v:Value) (as:List Addr) (A:Around) (s:Shared) (Q:Int->Shared->Prop),cQ d=true->Reads s.heap v d as->A.units+d.depth<cLine ->
  Q (vh d) { s with toks:=s.toks+i9 d }->wpAny (model prog w) A (pyHash v) Q E s
 |.int n,_,_,A,s,Q,_,r,_,h=>by
  cases r
  unfold vh i9 at h
  exact wpAny_pyHash_int h
 |.tuple xs,_,_,A,s,Q,hk,r,hu,h=>by
  cases r with
  |@tuple a o vs n _ as' hg hc hd hr=>
   refine PySem.W.pyHash_slot (T:= "tuple") ⟨_,hg,hc⟩ F.slot_tuple_hash F.entry_tuple_hash (F.args_tuple_hash_1 _) (beq_builtin_none _) (.inr (by unfold PyData.depth at hu; lia)) ?_
   show wpAny _ _ (Builtin.Tuple.tupleItemsOf (.ref a) >>= _) _ _ s
   refine J6 (wpAny_tupleItemsOf hg hd ?_)
   refine J6 ?_
   rw [<-Array.forIn_toList]
   refine rS xs vs.toList _ A.in1 s #[] _ (by unfold cQ at hk; exact hk) hr (by unfold PyData.depth at hu; show A.units+1+_<_; lia) fun b hb=>?_
   show wpAny _ _ (retInt (Builtin.Tuple.tupleHashOf b.toList)) _ _ _
   rw [hb]
   refine J6 (wpAny_mkInt (J7 ⟨_,_,rfl,?_⟩))
   unfold vh i9 at h
   simpa [Nat.add_assoc] using h
 |.none,_,_,_,_,_,h,_,_,_|.bool _,_,_,_,_,_,h,_,_,_|.str _,_,_,_,_,_,h,_,_,_|.list _,_,_,_,_,_,h,_,_,_|.dict _,_,_,_,_,_,h,_,_,_=>by simp [cQ] at h
theorem rS:∀(xs:List PyData) (vs:List Value) (as:List Addr) (A:Around) (s:Shared) (b:Array Int) (Q:Array Int->Shared->Prop),fx xs=true->ReadsAll s.heap vs xs as->A.units+PyData.depthAll xs<cLine ->
  (∀b',b'.toList=b.toList++lP xs->Q b' { s with toks:=s.toks+oo xs }) ->
  wpAny (model prog w) A (forIn vs b fun x r=>do let h <-pyHash x; pure PUnit.unit; pure (ForInStep.yield (r.push h))) Q E s
 |[],_,_,A,s,b,Q,_,r,_,h=>by
  cases r
  exact J7 (h b (by simp [lP]))
 |k::xs,_,_,A,s,b,Q,hk,r,hu,h=>by
  cases r with
  |cons x1 x2=>
   unfold fx at hk
   rw [Bool.and_eq_true] at hk
   unfold PyData.depthAll at hu
   rw [List.forIn_cons]
   refine J6 (J6 (uC k _ _ A s _ hk.1 x1 0x1 ?_))
   refine J6 (J7 (J7 ?_))
   refine rS xs _ _ A _ _ Q hk.2 x2 0x1 fun b' hb=>?_
   have:=h b' (by simp [hb,lP])
   unfold oo at this
   simpa [Nat.add_assoc] using this
end
theorem rJ:∀(n:Nat) (d:PyData) (v:Value) (as:List Addr) (A:Around) (s:Shared) (Q:Bool->Shared->Prop),cQ d=true->Reads s.heap v d as->d.depth<=n->Q true s->wpAny (model prog w) A (eqIsQuiet n v) Q E s
 |n,.int i,_,_,A,s,Q,_,r,_,h=>by
  cases r
  rw [eqIsQuiet_byValue n rfl]
  exact J7 h
 |0,.tuple xs,_,_,A,s,Q,hk,r,hn,h=>by unfold PyData.depth at hn; lia
 |n+1,.tuple xs,_,_,A,s,Q,hk,r,hn,h=>by
  cases r with
  |@tuple a o vs m _ as' hg hc hd hr=>
   have hT:s.TypeIs (.ref a) "tuple" :=⟨_,hg,hc⟩
   unfold eqIsQuiet
   refine J6 (wpAny_specialOf hT F.slot_tuple_eq.lookup ?_)
   show wpAny _ _ (isInstance (.ref a) (.type "tuple") >>= _) _ _ s
   refine J6 (wpAny_isInstance hT isSubtype_tuple_tuple ?_)
   simp only [Bool.not_true,Bool.false_eq_true,if_false]
   refine J6 (wpAny_seqItems hg hd ?_)
   refine J6 ?_
   show wpAny _ _ (forIn vs _ _) _ _ s
   rw [<-Array.forIn_toList]
   refine wpAny_forIn_list _ (fun eL r s'=>r.1=none/\s'=s/\∃ys bs,ReadsAll s.heap eL ys bs/\fx ys=true/\PyData.depthAll ys<=n) _ ?_ ?_ _ _ ⟨rfl,rfl,xs,_,hr,(by unfold cQ at hk; exact hk),by unfold PyData.depth at hn; lia⟩
   ·rintro v eL r s' ⟨hr',rfl,ys,bs,hy,ky,dy⟩
    cases hy with
    |@cons _ _ d ds as1 bs1 y1 y2=>
     unfold fx at ky
     rw [Bool.and_eq_true] at ky
     unfold PyData.depthAll at dy
     refine J6 (rJ n d v _ A s' _ ky.1 y1 0x1 ?_)
     simp only [Bool.not_true,Bool.false_eq_true,if_false]
     exact J7 ⟨rfl,rfl,ds,_,y2,ky.2,0x1⟩
   ·rintro ⟨r1,r2⟩ s' ⟨hr',rfl,_⟩
    simp only at hr'
    subst hr'
    exact J7 h
 |_,.none,_,_,_,_,_,h,_,_,_|_,.bool _,_,_,_,_,_,h,_,_,_|_,.str _,_,_,_,_,_,h,_,_,_|_,.list _,_,_,_,_,_,h,_,_,_|_,.dict _,_,_,_,_,_,h,_,_,_=>by simp [cQ] at h
mutual
theorem rL {h h':Heap} {d:Addr} {o:Obj} {es:Array DictEntry} {ep:Nat} (ho:h.get? d=some o) (hd:o.data=.dict es ep) (hs:Heap.SameBut d h h'):∀(x:PyData) (v:Value) (as:List Addr),cQ x=true->Reads h v x as->Reads h' v x as
 |.int n,_,_,_,r=>by cases r; exact .int _ _
 |.tuple xs,_,_,hk,r=>by
  cases r with
  |@tuple a o' vs m _ as' hg hc hq hr=>
   have hne:a≠d:=fun e=>by subst e; rw [ho] at hg; cases hg; rw [hd] at hq; cases hq
   exact .tuple ((hs.2 a hne).trans hg) hc hq (rY ho hd hs xs _ _ (by unfold cQ at hk; exact hk) hr)
 |.none,_,_,h,_|.bool _,_,_,h,_|.str _,_,_,h,_|.list _,_,_,h,_|.dict _,_,_,h,_=>by simp [cQ] at h
theorem rY {h h':Heap} {d:Addr} {o:Obj} {es:Array DictEntry} {ep:Nat} (ho:h.get? d=some o) (hd:o.data=.dict es ep) (hs:Heap.SameBut d h h'):∀(xs:List PyData) (vs:List Value) (as:List Addr),fx xs=true->ReadsAll h vs xs as->ReadsAll h' vs xs as
 |[],_,_,_,r=>by cases r; exact .nil
 |x::t,_,_,hk,r=>by
  unfold fx at hk
  rw [Bool.and_eq_true] at hk
  cases r with
  |cons r1 r2=>exact .cons (rL ho hd hs x _ _ hk.1 r1) (rY ho hd hs t _ _ hk.2 r2)
end
noncomputable instance decD:DecidableEq PyData:=fun _ _=>Classical.propDecidable _
noncomputable def knd (prog:Program) (w:World):HeapKind prog w PyData where
 is:=fun h d a=>cQ d=true/\d.depth<=6/\∃as,Reads h (.ref a) d as
 hash:=vh
 draws:=i9
 room:=fun A=>A.units+16<cLine
 inj:=fun ⟨h1,_,_,r1⟩ ⟨_,_,_,r2⟩=>(PySem.SeqAt.Reads.unique _ _ _ _ _ (oj _ h1) r1 r2)
 keeps:=fun ⟨h1,h2,as,r⟩ ho hd hs=>⟨h1,h2,as,rL ho hd hs _ _ _ h1 r⟩
 pyHash:=fun hu ⟨h1,h2,as,r⟩ h=>uC _ _ as _ _ _ h1 r 0x1 h
 eqBool:=fun hu ⟨h1,h2,as,r⟩ ⟨g1,g2,bs,r'⟩ h=>SeqAt.eqBoolOverData _ _ _ _ _ _ _ _ _ _ _ _ r r' (oj _ h1) (oj _ g1) 0x1 (by
  have e:=yD _ _ h1 g1
  have q:PyData.eqv _ _=decide _:=Bool.eq_iff_iff.mpr (e.trans (decide_eq_true_iff).symm)
  rw [q]; exact h)
 quiet:=fun ⟨h1,h2,as,r⟩ h=>rJ 8 _ _ as _ _ _ h1 r 0x1 h
end
mutual
inductive RpT (T:Addr->List V->Prop):PyData->V->Prop
 |int (i:Int):RpT T (.int i) (.int i)
 |tup {a:Addr} {xs:List PyData} {vs:List V}:T a vs->RpTL T xs vs->RpT T (.tuple xs) (.ref a)
inductive RpTL (T:Addr->List V->Prop):List PyData->List V->Prop
 |nil:RpTL T [] []
 |cons {d:PyData} {v:V} {ds:List PyData} {vs:List V}:RpT T d v->RpTL T ds vs->RpTL T (d::ds) (v::vs)
end
noncomputable abbrev tv (H:Hp):Addr->List V->Prop:=fun b xs=>H b=some (.tup xs)
mutual
theorem RpT.mono {T T':Addr->List V->Prop} (k:∀b xs,T b xs->T' b xs):∀{d:PyData} {v:V},RpT T d v->RpT T' d v
 |_,_,.int i=>.int i
 |_,_,.tup h l=>.tup (k _ _ h) (RpTL.mono k l)
theorem RpTL.mono {T T':Addr->List V->Prop} (k:∀b xs,T b xs->T' b xs):∀{ds:List PyData} {vs:List V},RpTL T ds vs->RpTL T' ds vs
 |_,_,.nil=>.nil
 |_,_,.cons r l=>.cons (RpT.mono k r) (RpTL.mono k l)
end
mutual
theorem RpT.reads {P:Program} {w:World} {H:Hp} {h:Heap} (ok:kx P w H h):∀{d:PyData} {v:V} {u:Value},RpT (tv H) d v->br v u->∃as,Reads h u d as
 |_,_,_,.int i,r=>by obtain ⟨t,rfl⟩:=r; exact ⟨_,.int i t⟩
 |_,_,_,.tup (a:=a) q l,r=>by
  cases r
  obtain ⟨_,its,rv,o,e,c,n,dd⟩:=(show cu P w H h a (.tup _) from ok a _ q)
  obtain ⟨as,ra⟩:=RpTL.reads ok l rv
  exact ⟨_,.tuple e c dd (by simpa using ra)⟩
theorem RpTL.reads {P:Program} {w:World} {H:Hp} {h:Heap} (ok:kx P w H h):∀{ds:List PyData} {vs:List V} {us:List Value},RpTL (tv H) ds vs->aQ vs us->∃as,ReadsAll h us ds as
 |_,_,_,.nil,r=>by cases r; exact ⟨_,.nil⟩
 |_,_,_,.cons p l,r=>by
  cases r with
  |cons r rr=>
   obtain ⟨as,h1⟩:=RpT.reads ok p r
   obtain ⟨bs,h2⟩:=RpTL.reads ok l rr
   exact ⟨_,.cons h1 h2⟩
end
theorem GR {n:Nat} (h:n+64<cLine):n+20<cLine:=by lia
structure KR (T:Addr->List V->Prop) (p:PyData×V) (q:PyData×Addr×Value):Prop where
 eq:p.1=q.1
 key:cQ p.1=true
 deep:p.1.depth<=6
 at':RpT T p.1 (.ref q.2.1)
 val:br p.2 q.2.2
structure DX (P:Program) (w:World) (a:Addr) (kvs:List (PyData×V)) (T:Addr->List V->Prop) (h:Heap):Prop where
 sys:(a==sysModules)=false
 len:kvs.length<=sizeLine
 ex:∃xs,Paired (KR T) kvs xs/\∃o es ep,h.get? a=some o/\o.ExactDict/\o.data=.dict es ep/\es.toList=xs.map (entryOfKey (knd P w))/\(xs.map (·.1)).Nodup
noncomputable def dO (P:Program) (w:World) (a:Addr) (kvs:List (PyData×V)):HO:=.ext (DX P w a kvs)
theorem DX.stay {P:Program} {w:World} {a:Addr} {kvs:List (PyData×V)} {T T':Addr->List V->Prop} {h h':Heap} (x:DX P w a kvs T h) (k:∀b xs,T b xs->T' b xs) (ho:∀o,h.get? a=some o->h'.get? a=some o):DX P w a kvs T' h':=by
 obtain ⟨s,l,xs,r,o,es,ep,e,c⟩:=x
 exact ⟨s,l,xs,Paired.mapP r fun p q z=>⟨z.eq,z.key,z.deep,z.at'.mono k,z.val⟩,o,es,ep,ho o e,c⟩
theorem DX.obj {P:Program} {w:World} {a:Addr} {kvs:List (PyData×V)} {T:Addr->List V->Prop} {h:Heap} (x:DX P w a kvs T h):∃o,h.get? a=some o:=by
 obtain ⟨_,_,_,_,o,_,_,e,_⟩:=x
 exact ⟨o,e⟩
theorem DX.type {P:Program} {w:World} {a:Addr} {kvs:List (PyData×V)} {T:Addr->List V->Prop} {s:Shared} (x:DX P w a kvs T s.heap):s.TypeIs (.ref a) "dict" /\ ∃o,s.heap.get? a=some o/\o.dict=none:=by
 obtain ⟨_,_,_,_,o,_,_,e,c,_⟩:=x
 exact ⟨⟨o,e,c.1⟩,o,e,c.2.1⟩
theorem DX.dict {P:Program} {w:World} {a:Addr} {kvs:List (PyData×V)} {H:Hp} {h:Heap} (x:DX P w a kvs (tv H) h) (ok:kx P w H h):∃xs,Paired (KR (tv H)) kvs xs/\h.DictOfH (knd P w) a xs:=by
 obtain ⟨_,_,xs,r,o,es,ep,e,c,d,f,n⟩:=x
 refine ⟨xs,r,o,es,ep,e,c,d,f,fun x hx=>?_,n⟩
 have all:∀{l:List (PyData×V)} {m:List (PyData×Addr×Value)},Paired (KR (tv H)) l m->∀x∈m,(knd P w).is h x.1 x.2.1:=by
  intro l m q
  induction q with
  |nil=>intro x hx; exact nomatch hx
  |@cons p q ps qs hq t ih=>
   intro x hx
   rcases List.mem_cons.mp hx with e|hx
   ·subst e
    rw [<-hq.eq]
    exact ⟨hq.key,hq.deep,RpT.reads ok hq.at' rfl⟩
   ·exact ih x hx
 exact all r x hx
noncomputable def iJ (kvs:List (PyData×V)) (k:PyData):Option V:=(kvs.find? fun x=>decide (x.1=k)).map (·.2)
theorem j3 {T:Addr->List V->Prop} {kvs:List (PyData×V)} {xs:List (PyData×Addr×Value)} (r:Paired (KR T) kvs xs) (k:PyData):(iJ kvs k=none/\atKey xs k=none)\/∃v p,iJ kvs k=some v/\atKey xs k=some p/\br v p.2:=by
 induction r with
 |nil=>exact .inl ⟨rfl,rfl⟩
 |@cons p q ps qs h t ih=>
  by_cases e:p.1=k
  ·have e':q.1=k:=h.eq.symm.trans e
   exact .inr ⟨p.2,q.2,by simp [iJ,List.find?_cons,e],by simp [atKey,List.find?_cons,e'],h.val⟩
  ·have e':¬q.1=k:=fun z=>e (h.eq.trans z)
   have a:iJ (p::ps) k=iJ ps k:=by simp [iJ,List.find?_cons,e]
   have b:atKey (q::qs) k=atKey qs k:=by simp [atKey,List.find?_cons,e']
   rw [a,b]; exact ih
noncomputable def qF (kvs:List (PyData×V)) (k:PyData) (v:V):List (PyData×V):=if (iJ kvs k).isSome then kvs.map fun x=>if x.1=k then (x.1,v) else x else kvs++[(k,v)]
theorem AO {T:Addr->List V->Prop} {kvs:List (PyData×V)} {xs:List (PyData×Addr×Value)} {k:PyData} {b:Addr} {v:V} {u:Value} (r:Paired (KR T) kvs xs) (h1:cQ k=true) (h2:k.depth<=6) (h3:RpT T k (.ref b)) (h4:br v u) :
  Paired (KR T) (qF kvs k v) (storedH xs k b u):=by
 unfold qF
 rcases j3 r k with ⟨e1,e2⟩|⟨v',p,e1,e2,_⟩
 ·rw [e1,storedH_new e2]
  exact Paired.snoc r ⟨rfl,h1,h2,h3,h4⟩
 ·rw [e1,storedH_old e2]
  show Paired (KR T) (kvs.map fun x=>if x.1=k then (x.1,v) else x) (xs.map (putAt k u))
  clear e1 e2
  induction r with
  |nil=>exact .nil
  |@cons p q ps qs h t ih=>
   rw [List.map_cons,List.map_cons]
   refine .cons ?_ ih
   unfold putAt
   by_cases e:p.1=k
   ·rw [if_pos e,if_pos (h.eq.symm.trans e)]; exact ⟨h.eq,h.key,h.deep,h.at',h4⟩
   ·rw [if_neg e,if_neg (fun z=>e (h.eq.trans z))]; exact h
theorem uF (kvs:List (PyData×V)) (k:PyData) (v:V):(qF kvs k v).length<=kvs.length+1:=by
 unfold qF
 split <;> simp
section
variable {X:Cx} {pins:List (Addr×Obj)} {σ:St} {H:Hp} {s:Shared} {a b:Addr} {kvs:List (PyData×V)} {k:PyData} {u r:Value} {v:V} {A:Around} {E:Value->Shared->Prop}
theorem EZ {P:Program} {w:World} {H:Hp} {h:Heap} {a:Addr} {kvs:List (PyData×V)} (x:DX P w a kvs (tv H) h):cu P w H h a (dO P w a kvs):=⟨x,x.obj,fun _ _ _ _ x k ho=>x.stay k ho⟩
theorem xw {P:Program} {w:World} {H:Hp} {h:Heap} {a:Addr} {kvs:List (PyData×V)} (ok:kx P w H h) (e:H a=some (dO P w a kvs)):DX P w a kvs (tv H) h:=(show cu P w H h a (.ext _) from ok a _ e).1
theorem pk {P:Program} {w:World} {h:Heap} (ok:kx P w H h) (h1:cQ k=true) (h2:k.depth<=6) (h3:RpT (tv H) k (.ref b)):(knd P w).is h k b:=⟨h1,h2,RpT.reads ok h3 rfl⟩
theorem tG {o:HO} {φ:(Addr->List V->Prop)->Heap->Prop} (e:H a=some (.ext φ)):∀b xs,tv H b xs->tv (upd H a o) b xs:=fun b xs q=>by
 show upd H a o b=_
 rw [aA (ES q e (fun z=>nomatch z))]; exact q
theorem yh {φ ψ:(Addr->List V->Prop)->Heap->Prop} (I:Inv X pins σ H s) (e:H a=some (.ext φ)) (new:cu X.prog X.w (upd H a (.ext ψ)) s.heap a (.ext ψ)):Inv X pins σ (upd H a (.ext ψ)) s:=by
 have h:=I.write (x:=a) (e:=a) (h':=s.heap) (t':=s.toks) (by rw [e]; exact True.intro) (.inl rfl) (fun _ _ _ q=>q) new.2.1 new
 exact h
theorem uH {φ ψ:(Addr->List V->Prop)->Heap->Prop} {h':Heap} {t:Nat} (I:Inv X pins σ H s) (e:H a=some (.ext φ)) (hs:Heap.SameBut a s.heap h') (new:cu X.prog X.w (upd H a (.ext ψ)) h' a (.ext ψ)):Inv X pins σ (upd H a (.ext ψ)) { s with heap:=h',toks:=t }:=
 I.write (x:=a) (e:=a) (by rw [e]; exact True.intro) (.inl rfl) (fun b u hb q=>(hs.2 b hb).trans q) new.2.1 new
theorem DX.put {P:Program} {w:World} {φ:(Addr->List V->Prop)->Heap->Prop} {h h':Heap} {xs:List (PyData×Addr×Value)} (e:H a=some (.ext φ)) (x:DX P w a kvs (tv H) h) (rel:Paired (KR (tv H)) kvs xs) (h1:cQ k=true) (h2:k.depth<=6) (h3:RpT (tv H) k (.ref b)) (rv:br v u) (hl:kvs.length<sizeLine)
  (dd:h'.DictOfH (knd P w) a (storedH xs k b u)) {o:HO}:DX P w a (qF kvs k v) (tv (upd H a o)) h':=by
 obtain ⟨ob,es,ep,q1,q2,q3,q4,_,q5⟩:=dd
 exact ⟨x.sys,Nat.le_trans (uF kvs k v) hl,_,Paired.mapP (AO rel h1 h2 h3 rv) fun p q z=>⟨z.eq,z.key,z.deep,z.at'.mono (tG e),z.val⟩,ob,es,ep,q1,q2,q3,q4,q5⟩
theorem Gw {Q:Value->Shared->Prop} {d:V} (hu:A.units+20<cLine) (I:Inv X pins σ H s) (x:DX X.prog X.w a kvs (tv H) s.heap) (h1:cQ k=true) (h2:k.depth<=6) (h3:RpT (tv H) k (.ref b)) (rd:br d r) (h:∀w' s',Inv X pins σ H s'->br ((iJ kvs k).getD d) w'->Q w' s') :
  wpAny (model X.prog X.w) A (call (.builtin "dict.get") [.ref a,.ref b,r]) Q E s:=by
 obtain ⟨xs,rel,dd⟩:=x.dict I.hok
 refine call_meetsIn PySem.F.slot_dict_get dd.typeIs PySem.F.entry_dict_get (PySem.F.args_dict_get_3 _ _ _) (meetsH_dict_get_default (knd X.prog X.w) a b x.sys r) ⟨(by show A.units+1+16<cLine; lia),k,xs,pk I.hok h1 h2 h3,dd,h _ _ (I.tok _) ?_⟩
 rcases j3 rel k with ⟨e1,e2⟩|⟨v,p,e1,e2,e3⟩
 ·rw [e1,e2]; exact rd
 ·rw [e1,e2]; exact e3
theorem qG {prog:Program} {w:World} {A:Around} {E:Value->Shared->Prop} {s:Shared} {d a:Addr} {xs:List (PyData×Addr×Value)} {k:PyData} {dflt:Value} {Q:Value->Shared->Prop} (hu:(knd prog w).room A) (hkey:(knd prog w).is s.heap k a) (hm:s.heap.DictOfH (knd prog w) d xs)
  (hthere:∀p,atKey xs k=some p->Q p.2 { s with toks:=s.toks+i9 k })
  (hnew:atKey xs k=none->∀h',h'.DictOfH (knd prog w) d (storedH xs k a dflt)->Heap.SameBut d s.heap h'->Q dflt { s with heap:=h',toks:=s.toks+i9 k })
  (hsz:xs.length<=sizeLine):wpAny (model prog w) A (dictSetDefault d (.ref a) dflt) Q E s:=by
 obtain ⟨o,es,ep,ho,hc,hd,he,his,hn⟩:=hm
 unfold dictSetDefault
 try with_reducible refine wpAny_holding ?_
 refine J6 ((knd prog w).pyHash hu hkey ?_)
 refine J6 (wpAny_dictFind_heap (s:={ s with toks:=s.toks+(knd prog w).draws k }) hu hkey ho hd he his hn ?_ ?_)
 ·intro hno
  have hnot:k∉xs.map (·.1):=not_mem_keys_of_get hno
  refine J6 (wpAny_rule (J6 (wpAny_updateDictKeys (hz:=by have e:=size_of_entries he; lia) (s:={ s with toks:=s.toks+(knd prog w).draws k }) ho hd (J7 (hnew (atKey_none_of_get hno) _ ⟨_,_,ep+1,Heap.get?_update_self _ ho (Obj.isFreed_of_dict (Obj.data_mapDictKeys hd _)),
   hc.mapDictKeys _,Obj.data_mapDictKeys hd _,?_,?_,?_⟩ (Heap.SameBut.update ..))))))
  ·rw [storedH_new (atKey_none_of_get hno)]
   simp [he,entryOfKey]
  ·rw [storedH_new (atKey_none_of_get hno)]
   intro x hx
   rcases List.mem_append.mp hx with hx|hx
   ·exact (knd prog w).keeps (his x hx) ho hd (Heap.SameBut.update ..)
   ·simp only [List.mem_singleton] at hx
    subst hx
    exact (knd prog w).keeps hkey ho hd (Heap.SameBut.update ..)
  ·rw [storedH_new (atKey_none_of_get hno)]
   rw [List.map_append,List.nodup_append]
   refine ⟨hn,0x4,?_⟩
   intro x hx y hy
   simp only [List.map_cons,List.map_nil,List.mem_singleton] at hy
   subst hy
   exact fun e=>hnot (e▸hx)
 ·intro j p hj
  refine J6 (wpAny_dictEntries (s:={ s with toks:=s.toks+(knd prog w).draws k }) ho hd ?_)
  rw [entry_at he j,hj]
  exact J6 (wpAny_rule (J7 (hthere p (atKey_of_get hn hj))))
theorem mq {prog:Program} {w:World} (d a:Addr) (hd:(d==sysModules)=false) (dflt:Value) :
  MeetsIn prog w (Builtin.«dict.setdefault» ⟨[.ref d,.ref a,dflt],[]⟩) (fun A R s=>(knd prog w).room A.in1/\∃k xs,(knd prog w).is s.heap k a/\s.heap.DictOfH (knd prog w) d xs/\xs.length<=sizeLine /\
   (∀p,atKey xs k=some p->R (.ok (.ret p.2)) { s with toks:=s.toks+i9 k }) /\
   (atKey xs k=none->∀h',h'.DictOfH (knd prog w) d (storedH xs k a dflt)->Heap.SameBut d s.heap h'->R (.ok (.ret dflt)) { s with heap:=h',toks:=s.toks+i9 k })):=
 .of_wp fun A R s ⟨hu,k,xs,hkey,hm,hz,h1,h2⟩=>by
  unfold Builtin.«dict.setdefault»
  refine J6 ?_
  unfold Builtin.Dict.keyAndDefault
  refine J6 (wpAny_notOrdered_dict hm.typeIs ?_)
  show wpAny _ _ (pure (d,Value.ref a,some dflt)) _ _ s
  refine J7 ?_
  show wpAny _ _ (if (d==sysModules)=true then _ else (dictSetDefault d (.ref a) dflt >>= _)) _ _ s
  rw [if_neg (by rw [hd]; exact Bool.false_ne_true)]
  exact J6 (qG hu hkey hm (fun p hp=>J7 ⟨p.2,rfl,h1 p hp⟩) (fun hn h' hm' hs'=>J7 ⟨dflt,rfl,h2 hn h' hm' hs'⟩) hz)
theorem tX {Q:Value->Shared->Prop} {d:V} (hu:A.units+20<cLine) (I:Inv X pins σ H s) (e:H a=some (dO X.prog X.w a kvs)) (h1:cQ k=true) (h2:k.depth<=6) (h3:RpT (tv H) k (.ref b)) (rd:br d r) (hl:kvs.length<sizeLine)
  (old:∀v w' s',iJ kvs k=some v->Inv X pins σ H s'->br v w'->Q w' s') (new:iJ kvs k=none->∀s',Inv X pins σ (upd H a (dO X.prog X.w a (kvs++[(k,d)]))) s'->Q r s') :
  wpAny (model X.prog X.w) A (call (.builtin "dict.setdefault") [.ref a,.ref b,r]) Q E s:=by
 have x:=xw I.hok e
 obtain ⟨xs,rel,dd⟩:=x.dict I.hok
 refine call_meetsIn PySem.F.slot_dict_setdefault dd.typeIs PySem.F.entry_dict_setdefault (PySem.F.args_dict_setdefault_3 _ _ _) (mq a b x.sys r) ⟨(by show A.units+1+16<cLine; lia),k,xs,pk I.hok h1 h2 h3,dd,by rw [<-Paired.length rel]; exact x.len,fun p hp=>?_,fun hn h' dd' hs=>?_⟩
 ·rcases j3 rel k with ⟨e1,e2⟩|⟨v,p',e1,e2,e3⟩
  ·rw [hp] at e2; cases e2
  ·rw [hp] at e2; cases e2
   exact old v _ _ e1 (I.tok _) e3
 ·rcases j3 rel k with ⟨e1,e2⟩|⟨v,p',e1,e2,e3⟩
  ·refine new e1 _ ?_
   have y:=x.put (o:=dO X.prog X.w a (kvs++[(k,d)])) e rel h1 h2 h3 rd hl dd'
   have ev:qF kvs k d=kvs++[(k,d)]:=by unfold qF; rw [e1]; rfl
   rw [ev] at y
   exact uH I e hs (EZ y)
  ·rw [hn] at e2; cases e2
end
theorem ug {α:Type}:∀(l U:List α),l.Nodup->(∀x∈l,x∈U)->l.length<=U.length
 |[],_,_,_=>Nat.zero_le _
 |x::r,U,hn,hs=>by
  classical
  rw [List.nodup_cons] at hn
  have hx:=hs x JZ
  have h:=ug r (U.erase x) hn.2 fun y hy=>by
   have hne:y≠x:=fun e=>hn.1 (e▸hy)
   exact (List.mem_erase_of_ne hne).mpr (hs y (JY _ hy))
  have e:=List.length_erase_of_mem hx
  have hp:0<U.length:=List.length_pos_of_mem hx
  rw [List.length_cons]; lia
noncomputable def Ig (f:PyData->Option Int) (U:List PyData) (kvs:List (PyData×V)):Prop:=∀p∈kvs,p.1∈U/\∃i,f p.1=some i/\p.2=.int i
noncomputable def MX (P:Program) (w:World) (a:Addr) (f:PyData->Option Int) (U:List PyData) (T:Addr->List V->Prop) (h:Heap):Prop:=∃kvs,Ig f U kvs/\DX P w a kvs T h
noncomputable def JQ (P:Program) (w:World) (a:Addr) (f:PyData->Option Int) (U:List PyData) (k:PyData) (T:Addr->List V->Prop) (h:Heap):Prop:=∃kvs,Ig f U kvs/\(∃v,iJ kvs k=some v)/\DX P w a kvs T h
noncomputable def mO (P:Program) (w:World) (a:Addr) (f:PyData->Option Int) (U:List PyData):HO:=.ext (MX P w a f U)
noncomputable def BU (P:Program) (w:World) (a:Addr) (f:PyData->Option Int) (U:List PyData) (k:PyData):HO:=.ext (JQ P w a f U k)
section
variable {X:Cx} {pins:List (Addr×Obj)} {σ:St} {H:Hp} {s:Shared} {a b:Addr} {f:PyData->Option Int} {U:List PyData} {k:PyData} {u:Value} {A:Around} {E:Value->Shared->Prop}
theorem EI {P:Program} {w:World} {H:Hp} {h:Heap} {a:Addr} {kvs:List (PyData×V)} (hk:Ig f U kvs) (x:DX P w a kvs (tv H) h):cu P w H h a (mO P w a f U):=⟨⟨kvs,hk,x⟩,x.obj,fun _ _ _ _ ⟨l,q,x⟩ k ho=>⟨l,q,x.stay k ho⟩⟩
theorem AW {P:Program} {w:World} {H:Hp} {h:Heap} {a:Addr} {kvs:List (PyData×V)} (hk:Ig f U kvs) (hv:∃v,iJ kvs k=some v) (x:DX P w a kvs (tv H) h):cu P w H h a (BU P w a f U k):=⟨⟨kvs,hk,hv,x⟩,x.obj,fun _ _ _ _ ⟨l,q,z,x⟩ k ho=>⟨l,q,z,x.stay k ho⟩⟩
theorem oh {kvs:List (PyData×V)} {v:V} (h:iJ kvs k=some v):(k,v)∈kvs:=by
 unfold iJ at h
 cases e:kvs.find? fun x=>decide (x.1=k) with
 |none=>rw [e] at h; cases h
 |some p=>
  rw [e] at h
  cases h
  have h1:=List.mem_of_find?_eq_some e
  have h2:p.1=k:=by simpa using List.find?_some e
  rw [<-h2]; exact h1
theorem Dt {T:Addr->List V->Prop} {kvs:List (PyData×V)} {xs:List (PyData×Addr×Value)} (r:Paired (KR T) kvs xs):kvs.map (·.1)=xs.map (·.1):=by
 induction r with
 |nil=>rfl
 |cons h t ih=>rw [List.map_cons,List.map_cons,ih,h.eq]
theorem DX.few {P:Program} {w:World} {a:Addr} {kvs:List (PyData×V)} {T:Addr->List V->Prop} {h:Heap} (x:DX P w a kvs T h) (hk:Ig f U kvs):kvs.length<=U.length:=by
 obtain ⟨_,_,xs,r,_,_,_,_,_,_,_,n⟩:=x
 have:=ug (kvs.map (·.1)) U (by rw [Dt r]; exact n) fun y hy=>by
  obtain ⟨p,hp,rfl⟩:=List.mem_map.mp hy
  exact (hk p hp).1
 simpa using this
theorem Bf {prog:Program} {w:World} {A:Around} {E:Value->Shared->Prop} {s:Shared} {d a:Addr} {k:PyData} {xs:List (PyData×Addr×Value)} {Q:Value->Shared->Prop} (hu:(knd prog w).room A.in1) (hkey:(knd prog w).is s.heap k a) (hd:(d==sysModules)=false) (hm:s.heap.DictOfH (knd prog w) d xs)
  (h:Q (.bool (!(atKey xs k).isSome)) { s with toks:=s.toks+(knd prog w).draws k }):wpAny (model prog w) A (compareOp .NotIn (.ref a) (.ref d)) Q E s:=by
 show wpAny _ _ (do return .bool (!(<-contains (.ref d) (.ref a)))) Q E s
 refine J6 ?_
 unfold contains
 try with_reducible refine wpAny_holding ?_
 refine J6 (wpAny_specialOf hm.typeIs slot_dict_contains.lookup ?_)
 show wpAny _ _ (if (some (Value.builtin "dict.__contains__")==some Value.none)=true then _ else _) _ E s
 rw [if_neg (by rw [beq_builtin_none]; exact Bool.false_ne_true)]
 refine J6 (wpAny_callSpecialUnlessNone?_slot (name:=Str.ofString "__contains__") hm.typeIs slot_dict_contains
  (wpAny_call_entry slot_dict_contains hm.typeIs entry_dict_contains ?_ (args_dict_contains _ _)))
 show wpAny _ _ (dictGet d (.ref a) >>= _) _ _ s
 refine J6 (wpAny_dictGet_heap hu hkey hm ?_)
 cases hf:atKey xs k with
 |some v=>
  rw [hf] at h
  show wpAny _ _ (ret (.bool true)) _ _ _
  exact J7 ⟨_,rfl,wpAny_truthy_bool (J7 h)⟩
 |none=>
  rw [hf] at h
  show wpAny _ _ (Builtin.Dict.pendingKey? d (.ref a) >>= _) _ _ _
  exact J6 (wpAny_pendingKey_other hd (J7 ⟨_,rfl,wpAny_truthy_bool (J7 h)⟩))
theorem Eo {Q:Value->Shared->Prop} (hu:A.units+20<cLine) (I:Inv X pins σ H s) (e:H a=some (mO X.prog X.w a f U)) (h1:cQ k=true) (h2:k.depth<=6) (h3:RpT (tv H) k (.ref b))
  (no:∀s',Inv X pins σ H s'->Q (.bool true) s') (yes:∀s',Inv X pins σ (upd H a (BU X.prog X.w a f U k)) s'->Q (.bool false) s'):wpAny (model X.prog X.w) A (compareOp .NotIn (.ref b) (.ref a)) Q E s:=by
 obtain ⟨⟨kvs,hk,x⟩,_⟩:=(show cu X.prog X.w H s.heap a (.ext _) from I.hok a _ e)
 obtain ⟨xs,rel,dd⟩:=x.dict I.hok
 refine Bf (by show A.units+1+16<cLine; lia) (pk I.hok h1 h2 h3) x.sys dd ?_
 rcases j3 rel k with ⟨e1,e2⟩|⟨v,p,e1,e2,e3⟩
 ·rw [e2]
  exact no _ (I.tok _)
 ·rw [e2]
  exact yes _ (yh (I.tok _) e (AW hk ⟨v,e1⟩ (x.stay (tG e) fun _ q=>q)))
theorem HM {Q:Value->Shared->Prop} (hu:A.units+20<cLine) (I:Inv X pins σ H s) (e:H a=some (BU X.prog X.w a f U k)) (h1:cQ k=true) (h2:k.depth<=6) (h3:RpT (tv H) k (.ref b))
  (h:∀i t s',f k=some i->Inv X pins σ (upd H a (mO X.prog X.w a f U)) s'->Q (.int i t) s'):wpAny (model X.prog X.w) A (getItem (.ref a) (.ref b)) Q E s:=by
 obtain ⟨⟨kvs,hk,⟨v,hv⟩,x⟩,_⟩:=(show cu X.prog X.w H s.heap a (.ext _) from I.hok a _ e)
 obtain ⟨xs,rel,dd⟩:=x.dict I.hok
 rcases j3 rel k with ⟨e1,_⟩|⟨v',p,e1,e2,e3⟩
 ·rw [hv] at e1; cases e1
 obtain ⟨_,i,hi,hv'⟩:=hk _ (oh e1)
 have hv2:v'=.int i:=hv'
 subst hv2
 obtain ⟨t,ht⟩:=e3
 refine wpAny_getItem_heap (knd:=knd X.prog X.w) (by show A.units+1+16<cLine; lia) (pk I.hok h1 h2 h3) dd e2 ?_
 rw [ht]
 exact h i t _ hi (yh (I.tok _) e (EI hk (x.stay (tG e) fun _ q=>q)))
theorem Ik {Q:Unit->Shared->Prop} {i:Int} (hu:A.units+20<cLine) (I:Inv X pins σ H s) (e:H a=some (mO X.prog X.w a f U)) (h1:cQ k=true) (h2:k.depth<=6) (h3:RpT (tv H) k (.ref b)) (rv:br (.int i) u) (hi:f k=some i) (hU:k∈U) (hl:U.length<sizeLine)
  (h:∀s',Inv X pins σ (upd H a (BU X.prog X.w a f U k)) s'->Q () s'):wpAny (model X.prog X.w) A (setItem (.ref a) (.ref b) u) Q E s:=by
 obtain ⟨⟨kvs,hk,x⟩,_⟩:=(show cu X.prog X.w H s.heap a (.ext _) from I.hok a _ e)
 obtain ⟨xs,rel,dd⟩:=x.dict I.hok
 have hle:kvs.length<sizeLine:=Nat.lt_of_le_of_lt (x.few hk) hl
 refine wpAny_setItem_heap (knd:=knd X.prog X.w) (hsz:=by rw [<-Paired.length rel]; exact x.len) (by show A.units+1+16<cLine; lia) (pk I.hok h1 h2 h3) dd fun h' dd' hs=>h _ ?_
 have y:=x.put (o:=BU X.prog X.w a f U k) e rel h1 h2 h3 rv hle dd'
 refine uH I e hs (AW (kvs:=qF kvs k (.int i)) ?_ ?_ y)
 ·intro p hp
  unfold qF at hp
  split at hp
  ·obtain ⟨q,hq,rfl⟩:=List.mem_map.mp hp
   by_cases eq:q.1=k
   ·rw [if_pos eq]
    exact ⟨by show q.1∈U; rw [eq]; exact hU,i,by show f q.1=_; rw [eq]; exact hi,rfl⟩
   ·rw [if_neg eq]; exact hk q hq
  ·rcases List.mem_append.mp hp with hp|hp
   ·exact hk p hp
   ·simp only [List.mem_singleton] at hp
    subst hp
    exact ⟨hU,i,hi,rfl⟩
 ·unfold qF
  cases ev:iJ kvs k with
  |none=>
   refine ⟨.int i,?_⟩
   show iJ (kvs++[(k,V.int i)]) k=_
   unfold iJ at ev ⊢
   rw [List.find?_append]
   cases e2:kvs.find? fun x=>decide (x.1=k) with
   |none=>simp
   |some p=>rw [e2] at ev; cases ev
  |some v=>
   refine ⟨.int i,?_⟩
   show iJ (kvs.map fun x=>if x.1=k then (x.1,V.int i) else x) k=_
   have hm:=oh ev
   clear y ev x rel hk hle dd dd' hs h
   induction kvs with
   |nil=>cases hm
   |cons p r ih=>
    by_cases ep:p.1=k
    ·simp [iJ,List.find?_cons,ep]
    ·rw [List.map_cons,if_neg ep]
     have:iJ (p::r.map fun x=>if x.1=k then (x.1,V.int i) else x) k=iJ (r.map fun x=>if x.1=k then (x.1,V.int i) else x) k:=by simp [iJ,List.find?_cons,ep]
     rw [this]
     refine ih ?_
     rcases List.mem_cons.mp hm with z|z
     ·rw [<-z] at ep; exact absurd rfl ep
     ·exact z
end
noncomputable abbrev D:=PyData
mutual
inductive Rp (Z:List Addr) (H:Hp):D->V->Prop
 |none:Rp Z H .none .non
 |bool (b:Bool):Rp Z H (.bool b) (.bl b)
 |int (i:Int):Rp Z H (.int i) (.int i)
 |str (x:Str):PyData.strOk x=true->Rp Z H (.str x) (.str x)
 |tup {a:Addr} {xs:List D} {vs:List V}:a∉Z->H a=some (.tup vs)->RpL Z H xs vs->Rp Z H (.tuple xs) (.ref a)
 |lst {a:Addr} {xs:List D} {vs:List V}:a∉Z->H a=some (.lst vs)->RpL Z H xs vs->Rp Z H (.list xs) (.ref a)
inductive RpL (Z:List Addr) (H:Hp):List D->List V->Prop
 |nil:RpL Z H [] []
 |cons {d:D} {v:V} {ds:List D} {vs:List V}:Rp Z H d v->RpL Z H ds vs->RpL Z H (d::ds) (v::vs)
end
structure Kp (Z:List Addr) (H:Hp) (Z':List Addr) (H':Hp):Prop where
 keep:∀a o,a∉Z->H a=some o->H' a=some o
 new:∀a,a∈Z'->a∈Z\/H a=none
theorem Kp.same {Z:List Addr} {H H':Hp} (h:aD H H'):Kp Z H Z H':=⟨fun a o _ e=>h a o e,fun _ h=>.inl h⟩
theorem Kp.refl {Z:List Addr} {H:Hp}:Kp Z H Z H:=.same (aD.refl H)
theorem Kp.at {Z Z':List Addr} {H H':Hp} {a:Addr} {u:HO} (k:Kp Z H Z' H') (hz:a∉Z) (e:H a=some u):a∉Z'/\H' a=some u:=
 ⟨fun h=>(k.new a h).elim hz fun z=>(by rw [e] at z; cases z),k.keep a u hz e⟩
theorem aD.rd {H H':Hp} {a:Addr} {u:HO} (h:aD H H') (r:Rd H a u):Rd H' a u:=by
 rcases r with e|⟨o,e⟩
 ·exact .inl (h _ _ e)
 ·exact .inr ⟨o,h _ _ e⟩
mutual
theorem Rp.kp {Z Z':List Addr} {H H':Hp} (k:Kp Z H Z' H'):∀{d:D} {v:V},Rp Z H d v->Rp Z' H' d v
 |_,_,.none=>.none
 |_,_,.bool b=>.bool b
 |_,_,.int i=>.int i
 |_,_,.str x h=>.str x h
 |_,_,.tup hz r l=>.tup (k.at hz r).1 (k.at hz r).2 (RpL.kp k l)
 |_,_,.lst hz r l=>.lst (k.at hz r).1 (k.at hz r).2 (RpL.kp k l)
theorem RpL.kp {Z Z':List Addr} {H H':Hp} (k:Kp Z H Z' H'):∀{ds:List D} {vs:List V},RpL Z H ds vs->RpL Z' H' ds vs
 |_,_,.nil=>.nil
 |_,_,.cons r l=>.cons (Rp.kp k r) (RpL.kp k l)
end
theorem Kp.trans {Z Z1 Z2:List Addr} {H H1 H2:Hp} (a:Kp Z H Z1 H1) (b:Kp Z1 H1 Z2 H2):Kp Z H Z2 H2:=by
 refine ⟨fun c o hc e=>?_,fun c hc=>?_⟩
 ·exact b.keep c o (fun h=>(a.new c h).elim hc fun z=>by rw [e] at z; cases z) (a.keep c o hc e)
 ·rcases b.new c hc with z|z
  ·exact a.new c z
  ·by_cases hz:c∈Z
   ·exact .inl hz
   ·refine .inr ?_
    cases q:H c with
    |none=>rfl
    |some o=>rw [a.keep c o hz q] at z; cases z
theorem Kp.sub {Z Z':List Addr} {H:Hp} (h:∀a,a∈Z'->a∈Z):Kp Z H Z' H:=⟨fun _ _ _ e=>e,fun a ha=>.inl (h a ha)⟩
theorem RpL.length {Z:List Addr} {H:Hp}:∀{ds:List D} {vs:List V},RpL Z H ds vs->ds.length=vs.length
 |_,_,.nil=>rfl
 |_,_,.cons _ l=>by simp [RpL.length l]
theorem RpL.get {Z:List Addr} {H:Hp}:∀{ds:List D} {vs:List V} {i:Nat} {d:D},RpL Z H ds vs->ds[i]?=some d->∃v,vs[i]?=some v/\Rp Z H d v
 |_,_,_,_,.nil,h=>by simp at h
 |_,_,0,_,.cons r _,h=>by simp at h; subst h; exact ⟨_,rfl,r⟩
 |_,_,i+1,d,.cons _ l,h=>by
  obtain ⟨v,e,r⟩:=RpL.get (i:=i) (d:=d) l (by simpa using h)
  exact ⟨v,by simpa using e,r⟩
theorem RpL.append {Z:List Addr} {H:Hp}:∀{ds es:List D} {vs us:List V},RpL Z H ds vs->RpL Z H es us->RpL Z H (ds++es) (vs++us)
 |_,_,_,_,.nil,s=>s
 |_,_,_,_,.cons r l,s=>.cons r (RpL.append l s)
theorem RpL.take {Z:List Addr} {H:Hp}:∀{ds:List D} {vs:List V} (n:Nat),RpL Z H ds vs->RpL Z H (ds.take n) (vs.take n)
 |_,_,0,_=>.nil
 |_,_,_+1,.nil=>.nil
 |_,_,n+1,.cons r l=>.cons r (RpL.take n l)
theorem RpL.drop {Z:List Addr} {H:Hp}:∀{ds:List D} {vs:List V} (n:Nat),RpL Z H ds vs->RpL Z H (ds.drop n) (vs.drop n)
 |_,_,0,l=>l
 |_,_,_+1,.nil=>.nil
 |_,_,n+1,.cons _ l=>RpL.drop n l
theorem RpL.rep {Z:List Addr} {H:Hp} {ds:List D} {vs:List V} (h:RpL Z H ds vs):∀k:Nat,RpL Z H (List.replicate k ds).flatten (List.replicate k vs).flatten
 |0=>.nil
 |k+1=>by
  rw [List.replicate_succ,List.replicate_succ,List.flatten_cons,List.flatten_cons]
  exact h.append (RpL.rep h k)
mutual
theorem Rp.reads {X:Cx} {pins:List (Addr×Obj)} {σ:St} {H:Hp} {s:Shared} (I:Inv X pins σ H s) {Z:List Addr}:∀{d:D} {v:V} {u:Value},Rp Z H d v->br v u->∃as,Reads s.heap u d as
 |_,_,_,.none,r=>by cases r; exact ⟨_,.none⟩
 |_,_,_,.bool b,r=>by cases r; exact ⟨_,.bool b⟩
 |_,_,_,.int i,r=>by obtain ⟨t,rfl⟩:=r; exact ⟨_,.int i t⟩
 |_,_,_,.str x _,r=>by obtain ⟨t,rfl⟩:=r; exact ⟨_,.str x t⟩
 |_,_,_,.tup hz q l,r=>by
  cases r
  obtain ⟨its,rv,⟨o,e,c,n,dd⟩,_⟩:=I.tuple (ka.of q)
  obtain ⟨as,ra⟩:=RpL.reads I l rv
  exact ⟨_,.tuple e c dd (by simpa using ra)⟩
 |_,_,_,.lst hz q l,r=>by
  cases r
  obtain ⟨its,rv,⟨o,n,e,c,_,dd⟩,_⟩:=I.list (gg.of q)
  obtain ⟨as,ra⟩:=RpL.reads I l rv
  exact ⟨_,.list e c dd (by simpa using ra)⟩
theorem RpL.reads {X:Cx} {pins:List (Addr×Obj)} {σ:St} {H:Hp} {s:Shared} (I:Inv X pins σ H s) {Z:List Addr}:∀{ds:List D} {vs:List V} {us:List Value},RpL Z H ds vs->aQ vs us->∃as,ReadsAll s.heap us ds as
 |_,_,_,.nil,r=>by cases r; exact ⟨_,.nil⟩
 |_,_,_,.cons p l,r=>by
  cases r with
  |cons r rr=>
   obtain ⟨as,h1⟩:=Rp.reads I p r
   obtain ⟨bs,h2⟩:=RpL.reads I l rr
   exact ⟨_,.cons h1 h2⟩
end
mutual
theorem Rp.lay {Z:List Addr} {H:Hp}:∀{d:D} {v:V},Rp Z H d v->d.canLay0=true
 |_,_,.none=>rfl
 |_,_,.bool _=>rfl
 |_,_,.int _=>rfl
 |_,_,.str x h=>by unfold PyData.canLay0; exact h
 |_,_,.tup _ _ l=>by unfold PyData.canLay0; exact RpL.lay l
 |_,_,.lst _ _ l=>by unfold PyData.canLay0; exact RpL.lay l
theorem RpL.lay {Z:List Addr} {H:Hp}:∀{ds:List D} {vs:List V},RpL Z H ds vs->PyData.canLayAll0 ds=true
 |_,_,.nil=>rfl
 |_,_,.cons r l=>by unfold PyData.canLayAll0; rw [Rp.lay r,RpL.lay l]; rfl
end
noncomputable def KL (K:Kd) (a:Addr) (xs:List V):Prop:=∃(o:Obj) (its:Array Value) (n:Nat),K.lookup a=some o/\o.cls=.type "list" /\ o.dict=none/\o.data=.seq its n/\its.size<=sizeLine/\aQ xs its.toList
noncomputable abbrev dM:=Int×Int
noncomputable abbrev By:=List (dM×List (List dM))
noncomputable def tD (t:dM):D:=.tuple [.int t.1,.int t.2]
noncomputable def wD (w:List dM):D:=.list (w.map tD)
inductive FzK where
 |dl (P:Program) (w:World) (l:By)
 |tb (P:Program) (w:World) (C:Addr) (l:By) (f:PyData->Option Int) (U:List PyData)
inductive DV where
 |d (x:D)
 |ob (C:Addr) (fs:List (Str×D))
 |fz (kvs:FzK)
 |ex (q:Addr)
 |tpo (p xs q:List D)
 |nwt (p xs q:List D)
 |own (xs:List D)
 |new (xs:List D)
 |scr (K:Kd) (ns:List Int)
noncomputable abbrev DS:=List (Option DV)
noncomputable def EM (Z:List Addr) (H:Hp):List (Str×D)->List (Str×V)->Prop:=Paired fun (p:Str×D) (q:Str×V)=>p.1=q.1/\Rp Z H p.2 q.2
noncomputable def Co (Z:List Addr) (H:Hp) (C:Addr) (fs:List (Str×D)) (v:V):Prop:=∃a dx gs,v=.ref a/\a∉Z/\H a=some (.ins C dx gs)/\EM Z H fs gs
noncomputable def Bc (Z:List Addr) (H:Hp):By->List (D×V)->Prop:=Paired fun (p:dM×List (List dM)) (q:D×V)=>q.1=tD p.1/\Rp Z H (.list (p.2.map wD)) q.2
noncomputable def JE (Z:List Addr) (H:Hp):FzK->Addr->Addr->Prop
 |.dl P w l,a,_=>a∉Z/\∃kvs,H a=some (dO P w a kvs)/\Bc Z H l kvs
 |.tb P w C l f U,a,dx=>a∉Z/\∃b k kvs,H a=some (.ins C dx [("by_least",.ref b),("known",.ref k)])/\b∉Z/\H b=some (dO P w b kvs)/\Bc Z H l kvs/\k∉Z/\H k=some (mO P w k f U)
noncomputable def xZ (Z:List Addr) (H:Hp) (x:FzK) (v:V):Prop:=∃a dx,v=.ref a/\JE Z H x a dx
noncomputable def JU (P Z:List Addr) (H:Hp) (xs:List D) (v:V):Prop:=∃a vs,v=.ref a/\a∈P/\H a=some (.lst vs)/\RpL Z H xs vs
noncomputable def GQ (P Z:List Addr) (H:Hp) (p xs q:List D) (v:V):Prop:=∃t a ps vs qs,v=.ref t/\t∉Z/\H t=some (.tup (ps++.ref a::qs))/\a∈P/\H a=some (.lst vs)/\RpL Z H p ps/\RpL Z H xs vs/\RpL Z H q qs
noncomputable def Bt (Z:List Addr) (H H':Hp) (p xs q:List D) (v:V):Prop:=∃t a ps vs qs,v=.ref t/\t∉a::Z/\H' t=some (.tup (ps++.ref a::qs))/\H a=none/\H' a=some (.lst vs)/\RpL (a::Z) H' p ps/\RpL (a::Z) H' xs vs/\RpL (a::Z) H' q qs
noncomputable def qA (H:Hp):DV->V->Addr->Prop
 |.own _,v,a=>v=.ref a
 |.tpo p _ _,v,a=>∃t vs,v=.ref t/\H t=some (.tup vs)/\vs[p.length]?=some (.ref a)
 |_,_,_=>False
noncomputable def Cy:DV->Bool
 |.own _=>true
 |.tpo _ _ _=>true
 |_=>false
theorem qA.q {H:Hp} {x:DV} {v:V} {a:Addr} (h:qA H x v a):Cy x=true:=by
 cases x <;> first|exact h.elim|rfl
noncomputable def RE (O P:List Addr) (H H':Hp):DV->V->Prop
 |.d x,v=>Rp (P++O) H' x v
 |.ob C fs,v=>Co (P++O) H' C fs v
 |.fz kvs,v=>xZ (P++O) H' kvs v
 |.ex q,v=>v=.ref q
 |.tpo p xs q,v=>GQ P (P++O) H' p xs q v
 |.nwt p xs q,v=>Bt (P++O) H H' p xs q v
 |.own xs,v=>JU P (P++O) H' xs v
 |.new xs,v=>∃a vs,v=.ref a/\H a=none/\H' a=some (.lst vs)/\RpL (a::(P++O)) H' xs vs
 |.scr K ns,v=>∃a,v=.ref a/\((a∉P++O/\Rd H' a (.lst (ns.map V.int)))\/KL K a (ns.map V.int))
structure RS (O P:List Addr) (H:Hp) (σ:St) (δ:DS):Prop where
 len:σ.length=δ.length
 dom:∀a,a∈P++O->∃o,H a=some o
 apart:∀a,a∈P->a∉O
 at':∀(i:Nat) (x:DV),δ[i]?=some (some x)->∃v,σ[i]?=some (some v)/\(∀xs,x≠.new xs)/\RE O P H H x v
 one:∀(i j:Nat) (x y:DV) (v w:V) (a:Addr),δ[i]?=some (some x)->δ[j]?=some (some y)->σ[i]?=some (some v)->σ[j]?=some (some w)->qA H x v a->qA H y w a->i=j
theorem GQ.kp {P P' Z Z':List Addr} {H H':Hp} (k:Kp Z H Z' H') (hP:∀a u,a∈P->H a=some u->a∈P'/\H' a=some u) {p xs q:List D} {v:V} (h:GQ P Z H p xs q v):GQ P' Z' H' p xs q v:=by
 obtain ⟨t,a,ps,vs,qs,e,hz,ht,hp,ha,l1,l2,l3⟩:=h
 exact ⟨t,a,ps,vs,qs,e,(k.at hz ht).1,(k.at hz ht).2,(hP a _ hp ha).1,(hP a _ hp ha).2,l1.kp k,l2.kp k,l3.kp k⟩
theorem Bt.no {Z:List Addr} {H:Hp} {p xs q:List D} {v:V} (h:Bt Z H H p xs q v):False:=by
 obtain ⟨t,a,ps,vs,qs,e,hz,ht,hn,ha,_⟩:=h
 rw [hn] at ha; cases ha
theorem Bt.on {Z:List Addr} {H H1 H2:Hp} {p xs q:List D} {v:V} (h:Bt Z H H1 p xs q v) (s:aD H1 H2):Bt Z H H2 p xs q v:=by
 obtain ⟨t,a,ps,vs,qs,e,hz,ht,hn,ha,l1,l2,l3⟩:=h
 exact ⟨t,a,ps,vs,qs,e,hz,s _ _ ht,hn,s _ _ ha,l1.kp (.same s),l2.kp (.same s),l3.kp (.same s)⟩
theorem qA.old {O P:List Addr} {H H':Hp} {x:DV} {v:V} {a:Addr} (k:∀b o,b∉P++O->H b=some o->H' b=some o) (r:RE O P H H x v) (h:qA H' x v a):qA H x v a:=by
 cases x with
 |own xs=>exact h
 |tpo p xs q=>
  obtain ⟨t,b,ps,vs,qs,e,hz,ht,_⟩:=r
  obtain ⟨t',us,e',ht',hu⟩:=h
  subst e
  cases e'
  rw [k _ _ hz ht] at ht'
  cases ht'
  exact ⟨t,_,rfl,ht,hu⟩
 |_=>exact h.elim
theorem qA.new {O P:List Addr} {H:Hp} {x:DV} {v:V} {a:Addr} (r:RE O P H H x v) (h:qA H x v a):a∈P:=by
 cases x with
 |own xs=>
  obtain ⟨b,vs,e,hP,_⟩:=r
  have h':v=.ref a:=h
  rw [h'] at e; cases e; exact hP
 |tpo p xs q=>
  obtain ⟨t,b,ps,vs,qs,e,hz,ht,hP,_,l,_⟩:=r
  obtain ⟨t',us,e',ht',hu⟩:=h
  subst e
  cases e'
  rw [ht] at ht'
  cases ht'
  rw [l.length,List.getElem?_append_right (J5 _),Nat.sub_self] at hu
  cases hu
  exact hP
 |_=>exact h.elim
theorem EM.kp {Z Z':List Addr} {H H':Hp} (k:Kp Z H Z' H') {fs:List (Str×D)} {gs:List (Str×V)} (h:EM Z H fs gs):EM Z' H' fs gs:=Paired.mapP h fun _ _ r=>⟨r.1,r.2.kp k⟩
theorem Co.kp {Z Z':List Addr} {H H':Hp} (k:Kp Z H Z' H') {C:Addr} {fs:List (Str×D)} {v:V} (h:Co Z H C fs v):Co Z' H' C fs v:=by
 obtain ⟨a,dx,gs,e,hz,ha,hf⟩:=h
 refine ⟨a,dx,gs,e,fun hz'=>?_,k.keep _ _ hz ha,hf.kp k⟩
 rcases k.new a hz' with z|z
 ·exact hz z
 ·rw [ha] at z; cases z
theorem Bc.kp {Z Z':List Addr} {H H':Hp} (k:Kp Z H Z' H') {l:By} {kvs:List (D×V)} (h:Bc Z H l kvs):Bc Z' H' l kvs:=Paired.mapP h fun _ _ r=>⟨r.1,r.2.kp k⟩
theorem xZ.kp {Z Z':List Addr} {H H':Hp} (k:Kp Z H Z' H') {x:FzK} {v:V} (h:xZ Z H x v):xZ Z' H' x v:=by
 obtain ⟨a,dx,e,h⟩:=h
 refine ⟨a,dx,e,?_⟩
 cases x with
 |dl P w l=>
  obtain ⟨hz,kvs,ha,hl⟩:=h
  exact ⟨(k.at hz ha).1,kvs,(k.at hz ha).2,hl.kp k⟩
 |tb P w C l f U=>
  obtain ⟨hz,b,m,kvs,ha,hb,eb,hl,hm,em⟩:=h
  exact ⟨(k.at hz ha).1,b,m,kvs,(k.at hz ha).2,(k.at hb eb).1,(k.at hb eb).2,hl.kp k,(k.at hm em).1,(k.at hm em).2⟩
theorem RS.same {O P:List Addr} {H H':Hp} {σ:St} {δ:DS} (r:RS O P H σ δ) (h:aD H H'):RS O P H' σ δ:=by
 refine ⟨r.len,fun a ha=>?_,r.apart,fun i x e=>?_,fun i j x y v w a e1 e2 e3 e4 o1 o2=>?_⟩
 ·obtain ⟨o,e⟩:=r.dom a ha
  exact ⟨o,h a o e⟩
 ·obtain ⟨v,e1,e2,e3⟩:=r.at' i x e
  refine ⟨v,e1,e2,?_⟩
  cases x with
  |d x=>exact Rp.kp (.same h) e3
  |ob C fs=>exact Co.kp (.same h) e3
  |fz kvs=>exact xZ.kp (.same h) e3
  |ex q=>exact e3
  |tpo p xs q=>exact GQ.kp (.same h) (fun a u hp ha=>⟨hp,h a u ha⟩) e3
  |nwt p xs q=>exact (Bt.no e3).elim
  |own xs=>
   obtain ⟨a,vs,ev,hP,ha,hl⟩:=e3
   exact ⟨a,vs,ev,hP,h a _ ha,hl.kp (.same h)⟩
  |new xs=>exact absurd rfl (e2 xs)
  |scr K ns=>
   obtain ⟨a,ev,hz⟩:=e3
   exact ⟨a,ev,hz.imp (fun z=>⟨z.1,aD.rd h z.2⟩) fun z=>z⟩
 ·obtain ⟨v',d1,_,r1⟩:=r.at' i x e1
  obtain ⟨w',d2,_,r2⟩:=r.at' j y e2
  rw [e3] at d1; cases d1
  rw [e4] at d2; cases d2
  exact r.one i j x y v w a e1 e2 e3 e4 (o1.old (fun b o _ q=>h b o q) r1) (o2.old (fun b o _ q=>h b o q) r2)
theorem RE.on {O P:List Addr} {H H1 H2:Hp} {x:DV} {v:V} (r:RE O P H H1 x v) (h:aD H1 H2):RE O P H H2 x v:=by
 cases x with
 |d x=>exact Rp.kp (.same h) r
 |ob C fs=>exact Co.kp (.same h) r
 |fz kvs=>exact xZ.kp (.same h) r
 |ex q=>exact r
 |tpo p xs q=>exact GQ.kp (.same h) (fun a u hp ha=>⟨hp,h a u ha⟩) r
 |nwt p xs q=>exact Bt.on r h
 |own xs=>
  obtain ⟨a,vs,ev,hP,ha,hl⟩:=r
  exact ⟨a,vs,ev,hP,h a _ ha,hl.kp (.same h)⟩
 |new xs=>
  obtain ⟨a,vs,ev,hn,ha,hl⟩:=r
  exact ⟨a,vs,ev,hn,h a _ ha,hl.kp (.same h)⟩
 |scr K ns=>
  obtain ⟨a,ev,hz⟩:=r
  exact ⟨a,ev,hz.imp (fun z=>⟨z.1,aD.rd h z.2⟩) fun z=>z⟩
theorem RE.from {O P:List Addr} {H H1 H2:Hp} {x:DV} {v:V} (r:RE O P H1 H2 x v) (h:aD H H1):RE O P H H2 x v:=by
 cases x with
 |d x=>exact r
 |ob C fs=>exact r
 |fz kvs=>exact r
 |ex q=>exact r
 |tpo p xs q=>exact r
 |nwt p xs q=>
  obtain ⟨t,a,ps,vs,qs,e,hz,ht,hn,ha,ll⟩:=r
  exact ⟨t,a,ps,vs,qs,e,hz,ht,h.free hn,ha,ll⟩
 |own xs=>exact r
 |new xs=>
  obtain ⟨a,vs,ev,hn,ha,hl⟩:=r
  exact ⟨a,vs,ev,h.free hn,ha,hl⟩
 |scr K ns=>exact r
noncomputable abbrev M (α:Type):=Option (Except Value α)
noncomputable def bd {α β:Type} (m:M α) (f:α->M β):M β:=match m with
 |none=>none
 |some (.error c)=>some (.error c)
 |some (.ok a)=>f a
noncomputable def rt {α:Type} (a:α):M α:=some (.ok a)
@[simp] theorem aE {α β:Type} (a:α) (f:α->M β):bd (rt a) f=f a:=rfl
@[simp] theorem Bp {α β:Type} (a:α) (f:α->M β):bd (some (.ok a)) f=f a:=rfl
@[simp] theorem sD {α β:Type} (f:α->M β):bd (none:M α) f=none:=rfl
noncomputable def op {α:Type} (o:Option α):M α:=match o with
 |none=>none
 |some a=>some (.ok a)
@[simp] theorem aR {α:Type} (a:α):op (some a)=rt a:=rfl
theorem az {α β:Type} {m:M α} {f:α->M β} {r:Except Value β} (h:bd m f=some r):(∃a,m=some (.ok a)/\f a=some r)\/(∃c,m=some (.error c)/\r=.error c):=by
 cases m with
 |none=>cases h
 |some e=>
  cases e with
  |ok a=>exact .inl ⟨a,rfl,h⟩
  |error c=>exact .inr ⟨c,rfl,by cases h; rfl⟩
noncomputable def vx:DV->Option D
 |.d x=>some x
 |.new xs=>some (.list xs)
 |.nwt p xs q=>some (.tuple (p++.list xs::q))
 |_=>none
noncomputable def mj:DV->Option (List D)
 |.d (.list xs)=>some xs
 |.own xs=>some xs
 |.new xs=>some xs
 |_=>none
noncomputable def ER:DV->Option DV
 |.d x=>some (.d x)
 |.ob C fs=>some (.ob C fs)
 |.fz kvs=>some (.fz kvs)
 |.ex q=>some (.ex q)
 |.new xs=>some (.d (.list xs))
 |.nwt p xs q=>some (.d (.tuple (p++.list xs::q)))
 |.scr K ns=>some (.scr K ns)
 |_=>none
@[simp] theorem Ej (K:Kd) (ns:List Int):ER (.scr K ns)=some (.scr K ns):=rfl
@[simp] theorem xf (x:D):vx (.d x)=some x:=rfl
@[simp] theorem ow (xs:List D):vx (.new xs)=some (.list xs):=rfl
@[simp] theorem zL (xs:List D):mj (.d (.list xs))=some xs:=rfl
@[simp] theorem tY (xs:List D):mj (.own xs)=some xs:=rfl
@[simp] theorem nX (xs:List D):mj (.new xs)=some xs:=rfl
@[simp] theorem Hh (x:D):ER (.d x)=some (.d x):=rfl
@[simp] theorem FY (C:Addr) (fs:List (Str×D)):ER (.ob C fs)=some (.ob C fs):=rfl
@[simp] theorem CM (xs:List D):ER (.new xs)=some (.d (.list xs)):=rfl
section
variable {O P:List Addr} {H H':Hp} {x:DV} {v:V}
theorem lX {xs:List D} (dom:∀a,a∈P++O->∃o,H a=some o) (r:RE O P H H' (.new xs) v):Rp (P++O) H' (.list xs) v:=by
 obtain ⟨a,vs,rfl,hn,ha,hl⟩:=r
 refine .lst (fun h=>?_) ha (hl.kp (.sub fun b hb=>JY _ hb))
 obtain ⟨o,e⟩:=dom a h
 rw [e] at hn; cases hn
theorem pF {p xs q:List D} (dom:∀a,a∈P++O->∃o,H a=some o) (r:RE O P H H' (.nwt p xs q) v):Rp (P++O) H' (.tuple (p++.list xs::q)) v:=by
 obtain ⟨t,a,ps,vs,qs,rfl,hz,ht,hn,ha,l1,l2,l3⟩:=r
 have k:Kp (a::(P++O)) H' (P++O) H':=.sub fun b hb=>JY _ hb
 refine .tup (fun h=>hz (JY _ h)) ht (RpL.append (l1.kp k) (.cons (.lst (fun h=>?_) ha (l2.kp k)) (l3.kp k)))
 obtain ⟨o,e⟩:=dom a h
 rw [e] at hn; cases hn
theorem RE.data {d:D} (dom:∀a,a∈P++O->∃o,H a=some o) (r:RE O P H H' x v) (h:vx x=some d):Rp (P++O) H' d v:=by
 cases x with
 |d y=>cases h; exact r
 |ob C fs=>cases h
 |fz kvs=>cases h
 |ex q=>cases h
 |tpo p xs q=>cases h
 |nwt p xs q=>cases h; exact pF dom r
 |own xs=>cases h
 |new xs=>cases h; exact lX dom r
 |scr K ns=>cases h
theorem RE.list {xs:List D} (r:RE O P H H' x v) (h:mj x=some xs):∃a vs,v=.ref a/\H' a=some (.lst vs)/\RpL (P++O) H' xs vs:=by
 cases x with
 |d y=>
  cases y <;> simp only [mj] at h <;> try cases h
  have r':Rp (P++O) H' _ v:=r
  cases r' with
  |lst hz q l=>exact ⟨_,_,rfl,q,l⟩
 |ob C fs=>cases h
 |fz kvs=>cases h
 |ex q=>cases h
 |tpo p xs q=>cases h
 |nwt p xs q=>cases h
 |own ys=>
  cases h
  obtain ⟨a,vs,rfl,hP,ha,hl⟩:=r
  exact ⟨a,vs,rfl,ha,hl⟩
 |new ys=>
  cases h
  obtain ⟨a,vs,rfl,hn,ha,hl⟩:=r
  exact ⟨a,vs,rfl,ha,hl.kp (.sub fun b hb=>JY _ hb)⟩
 |scr K ns=>cases h
theorem RE.arg {y:DV} (dom:∀a,a∈P++O->∃o,H a=some o) (r:RE O P H H' x v) (h:ER x=some y):RE O P H H' y v:=by
 cases x with
 |d z=>cases h; exact r
 |ob C fs=>cases h; exact r
 |fz kvs=>cases h; exact r
 |ex q=>cases h; exact r
 |tpo p xs q=>cases h
 |nwt p xs q=>cases h; exact pF dom r
 |own xs=>cases h
 |new xs=>cases h; exact lX dom r
 |scr K ns=>cases h; exact r
end
noncomputable def Fn (E:XK) (O P:List Addr) (H₀ H:Hp) (Q:VK):Except Value DV->Prop
 |.ok x=>∀v H',aD H H'->RE O P H₀ H' x v->Q v H'
 |.error c=>∀dx H',aD H H'->E c dx H'
noncomputable def Ck (E:XK) (H:Hp) (Q:Bool->Hp->Prop):Except Value Bool->Prop
 |.ok b=>∀H',aD H H'->Q b H'
 |.error c=>∀dx H',aD H H'->E c dx H'
noncomputable def lA (O P:List Addr) (H H':Hp):List DV->List V->Prop:=Paired (RE O P H H')
noncomputable def JH (E:XK) (O P:List Addr) (H₀ H:Hp) (Q:List V->Hp->Prop):Except Value (List DV)->Prop
 |.ok xs=>∀vs H',aD H H'->lA O P H₀ H' xs vs->Q vs H'
 |.error c=>∀dx H',aD H H'->E c dx H'
theorem Fn.on {E:XK} {O P:List Addr} {H₀ H H1:Hp} {Q:VK} {r:Except Value DV} (h:Fn E O P H₀ H Q r) (s:aD H H1):Fn E O P H₀ H1 Q r:=by
 cases r with
 |ok x=>exact fun v H' s' q=>h v H' (s.trans s') q
 |error c=>exact fun dx H' s'=>h dx H' (s.trans s')
theorem Ck.on {E:XK} {H H1:Hp} {Q:Bool->Hp->Prop} {r:Except Value Bool} (h:Ck E H Q r) (s:aD H H1):Ck E H1 Q r:=by
 cases r with
 |ok x=>exact fun H' s'=>h H' (s.trans s')
 |error c=>exact fun dx H' s'=>h dx H' (s.trans s')
noncomputable def tE (E:XK) (f:DS->M DV):TE:=fun σ H Q=>∃O P δ r,RS O P H σ δ/\f δ=some r/\Fn E O P H H Q r
noncomputable def BC (E:XK) (f:DS->M Bool):TT:=fun σ H Q=>∃O P δ r,RS O P H σ δ/\f δ=some r/\Ck E H Q r
noncomputable def Jh (E:XK) (f:DS->M (List DV)):TA:=fun σ H Q=>∃O P δ r,RS O P H σ δ/\f δ=some r/\JH E O P H H Q r
noncomputable def PX (X:Cx) (E:XK) (e:Expr) (f:DS->M DV):Prop:=PE X e (tE E f)
noncomputable def PB (X:Cx) (E:XK) (e:Expr) (f:DS->M Bool):Prop:=PT X e (BC E f)
noncomputable def uS (X:Cx) (E:XK) (es:List Expr) (f:DS->M (List DV)):Prop:=PA X es (Jh E f)
section
variable {X:Cx} {E:XK}
theorem PE.mono {e:Expr} {t t':TE} (h:PE X e t) (m:∀σ H Q,t' σ H Q->t σ H Q):PE X e t':=fun pins s σ H Q I q=>h pins s σ H Q I (m σ H Q q)
theorem PT.mono {e:Expr} {t t':TT} (h:PT X e t) (m:∀σ H Q,t' σ H Q->t σ H Q):PT X e t':=fun pins s σ H Q I q=>h pins s σ H Q I (m σ H Q q)
theorem PA.mono {es:List Expr} {t t':TA} (h:PA X es t) (m:∀σ H Q,t' σ H Q->t σ H Q):PA X es t':=fun pos pins s σ H Q I q=>h pos pins s σ H Q I (m σ H Q q)
theorem lE {f:DS->M DV} {g:DS->DV->M DV} {σ:St} {H:Hp} {Q t:VK} (h:tE E (fun δ=>bd (f δ) (g δ)) σ H Q)
  (k:∀O P δ x r v H1,RS O P H σ δ->RS O P H1 σ δ->aD H H1->RE O P H H1 x v->g δ x=some r->Fn E O P H H1 Q r->t v H1):tE E f σ H t:=by
 obtain ⟨O,P,δ,r,rs,e,q⟩:=h
 rcases az e with ⟨x,e1,e2⟩|⟨c,e1,e2⟩
 ·exact ⟨O,P,δ,.ok x,rs,e1,fun v H1 s1 re=>k O P δ x r v H1 rs (rs.same s1) s1 re e2 (q.on s1)⟩
 ·subst e2
  exact ⟨O,P,δ,.error c,rs,e1,q⟩
theorem tj {f:DS->M DV} {g:DS->DV->M Bool} {σ:St} {H:Hp} {Q:Bool->Hp->Prop} {t:VK} (h:BC E (fun δ=>bd (f δ) (g δ)) σ H Q)
  (k:∀O P δ x r v H1,RS O P H σ δ->RS O P H1 σ δ->aD H H1->RE O P H H1 x v->g δ x=some r->Ck E H1 Q r->t v H1):tE E f σ H t:=by
 obtain ⟨O,P,δ,r,rs,e,q⟩:=h
 rcases az e with ⟨x,e1,e2⟩|⟨c,e1,e2⟩
 ·exact ⟨O,P,δ,.ok x,rs,e1,fun v H1 s1 re=>k O P δ x r v H1 rs (rs.same s1) s1 re e2 (q.on s1)⟩
 ·subst e2
  exact ⟨O,P,δ,.error c,rs,e1,q⟩
theorem wB {f:DS->M Bool} {g:DS->Bool->M Bool} {σ:St} {H:Hp} {Q:Bool->Hp->Prop} {t:Bool->Hp->Prop} (h:BC E (fun δ=>bd (f δ) (g δ)) σ H Q)
  (k:∀O P δ x r H1,RS O P H σ δ->RS O P H1 σ δ->aD H H1->g δ x=some r->Ck E H1 Q r->t x H1):BC E f σ H t:=by
 obtain ⟨O,P,δ,r,rs,e,q⟩:=h
 rcases az e with ⟨x,e1,e2⟩|⟨c,e1,e2⟩
 ·exact ⟨O,P,δ,.ok x,rs,e1,fun H1 s1=>k O P δ x r H1 rs (rs.same s1) s1 e2 (q.on s1)⟩
 ·subst e2
  exact ⟨O,P,δ,.error c,rs,e1,q⟩
noncomputable def af (i:Nat) (δ:DS):M DV:=op ((δ[i]?).join)
theorem ah (i:Nat) {x:Str} {pos:Pos} (h:PE X (.Name x pos) (gY i)):PX X E (.Name x pos) (af i):=PE.mono h fun σ H Q q=>by
 obtain ⟨O,P,δ,r,rs,e,q⟩:=q
 unfold af at e
 cases ed:δ[i]? with
 |none=>rw [ed] at e; cases e
 |some o=>
  cases o with
  |none=>rw [ed] at e; cases e
  |some y=>
   rw [ed] at e
   cases e
   obtain ⟨v,e1,e2,e3⟩:=rs.at' i y ed
   exact ⟨v,e1,q v H (aD.refl H) e3⟩
noncomputable def eC (x:D) (_:DS):M DV:=rt (.d x)
theorem tH {e:Expr} {x:D} {v:V} (h:PE X e (tC v)) (hr:∀Z H,Rp Z H x v):PX X E e (eC x):=PE.mono h fun σ H Q q=>by
 obtain ⟨O,P,δ,r,rs,e,q⟩:=q
 cases e
 exact q v H (aD.refl H) (hr _ _)
theorem ak {i:Int} {j pos}:PX X E (.Constant (.int i) j pos) (eC (.int i)):=tH Ft fun _ _=>.int i
theorem jY {b:Bool} {j pos}:PX X E (.Constant (.bool b) j pos) (eC (.bool b)):=tH HH fun _ _=>.bool b
theorem qe {x:Str} {j pos} (hx:PyData.strOk x=true):PX X E (.Constant (.str x) j pos) (eC (.str x)):=tH zT fun _ _=>.str x hx
theorem Em {x:Str} {i:Int} {t:Tok} {pos:Pos} (hg:Gl X x) (hm:X.mg x=some (.int i t)) (hd:(x==("__debug__" : Str))=false:=by decide):PX X E (.Name x pos) (eC (.int i)):=tH (v:=.int i) (CA hg hm ⟨t,rfl⟩ hd) fun _ _=>.int i
noncomputable def gZ (X:Cx) (E:XK) (f:Value->Value->Sem Value) (g:DV->DV->M DV):Prop:=
 ∀(pins:List (Addr×Obj)) (s:Shared) (σ:St) (O P:List Addr) (H₀ H:Hp) (x y:DV) (v u:V) (vv uu:Value) (r:Except Value DV) (Q:VK),Inv X pins σ H s->(∀a,a∈P++O->∃o,H₀ a=some o)->aD H₀ H ->
  RE O P H₀ H x v->RE O P H₀ H y u->br v vv->br u uu->g x y=some r->Fn E O P H₀ H Q r->wpAny (model X.prog X.w) X.A (f vv uu) (EP X pins σ Q) X.xe s
noncomputable def e2 (g:DV->DV->M DV) (fa fb:DS->M DV) (δ:DS):M DV:=bd (fa δ) fun x=>bd (fb δ) fun y=>g x y
theorem gZ.rule {f:Value->Value->Sem Value} {g:DV->DV->M DV} {R:R2} (ho:rB X f R)
  (h:∀(O P:List Addr) (H₀ H:Hp) (x y:DV) (v u:V) (r:Except Value DV) (Q:VK),(∀a,a∈P++O->∃o,H₀ a=some o)->aD H₀ H->RE O P H₀ H x v->RE O P H₀ H y u->g x y=some r->Fn E O P H₀ H Q r->R v u H Q):gZ X E f g:=
 fun pins s σ O P H₀ H x y v u vv uu r Q I hd hs rx ry ev eu e q=>ho pins s σ H v u vv uu Q I ev eu (h O P H₀ H x y v u r Q hd hs rx ry e q)
theorem t2 {g:DV->DV->M DV} {fa fb:DS->M DV} {σ:St} {H:Hp} {Q:VK} (h:tE E (e2 g fa fb) σ H Q) {t:V->V->Hp->Prop}
  (k:∀O P x y r v u H1,(∀a,a∈P++O->∃o,H a=some o)->aD H H1->RE O P H H1 x v->RE O P H H1 y u->g x y=some r->Fn E O P H H1 Q r->t v u H1) :
  tE E fa σ H fun v H1=>tE E fb σ H1 fun u H2=>t v u H2:=by
 refine lE (g:=fun δ x=>bd (fb δ) fun y=>g x y) h fun O P δ x r v H1 rs rs1 s1 rx e q=>?_
 rcases az e with ⟨y,e1,e2⟩|⟨c,e1,e2⟩
 ·refine ⟨O,P,δ,.ok y,rs1,e1,fun u H2 s2 ry=>k O P x y r v u H2 rs.dom (s1.trans s2) (rx.on s2) (ry.from s1) e2 (q.on s2)⟩
 ·subst e2
  exact ⟨O,P,δ,.error c,rs1,e1,q⟩
theorem aM {a b:Expr} {o:Operator} {fa fb:DS->M DV} {g:DV->DV->M DV} {pos:Pos} (ho:gZ X E (binaryOp o) g) (ha:PX X E a fa) (hb:PX X E b fb):PX X E (.BinOp a o b pos) (e2 g fa fb):=by
 intro pins s σ H Q I h
 exact wpAny_BinOp (Jj ha hb I (t2 h (t:=fun v u H1=>∃O P x y r,(∀a,a∈P++O->∃o,H a=some o)/\aD H H1/\RE O P H H1 x v/\RE O P H H1 y u/\g x y=some r/\Fn E O P H H1 Q r) fun O P x y r v u H1 h1 h2 h3 h4 h5 h6=>⟨O,P,x,y,r,h1,h2,h3,h4,h5,h6⟩)
  fun vv uu s2 v u H2 I2 rv ru ⟨O,P,x,y,r,h1,h2,h3,h4,h5,h6⟩=>ho pins s2 σ O P H H2 x y v u vv uu r Q I2 h1 h2 h3 h4 rv ru h5 h6)
theorem iN {a b:Expr} {o:CmpOp} {fa fb:DS->M DV} {g:DV->DV->M DV} {pos:Pos} (ho:gZ X E (compareOp o) g) (ha:PX X E a fa) (hb:PX X E b fb) (hm:behindInMarks o b=false:=by first|exact wt _|rfl):PX X E (.Compare a [o] [b] pos) (e2 g fa fb):=by
 intro pins s σ H Q I h
 exact wpAny_Compare1 (Jj ha hb I (t2 h (t:=fun v u H1=>∃O P x y r,(∀a,a∈P++O->∃o,H a=some o)/\aD H H1/\RE O P H H1 x v/\RE O P H H1 y u/\g x y=some r/\Fn E O P H H1 Q r) fun O P x y r v u H1 h1 h2 h3 h4 h5 h6=>⟨O,P,x,y,r,h1,h2,h3,h4,h5,h6⟩)
  fun vv uu s2 v u H2 I2 rv ru ⟨O,P,x,y,r,h1,h2,h3,h4,h5,h6⟩=>ho pins s2 σ O P H H2 x y v u vv uu r Q I2 h1 h2 h3 h4 rv ru h5 h6) hm
noncomputable def gI (C:Int->Int->Bool) (h:Int->Int->D) (x y:DV):M DV:=match x,y with
 |.d (.int i),.d (.int j)=>if C i j=true then rt (.d (h i j)) else none
 |_,_=>none
theorem uR {C:Int->Int->Bool} {h:Int->Int->D} {x y:DV} {r:Except Value DV} (e:gI C h x y=some r):∃i j,x=.d (.int i)/\y=.d (.int j)/\C i j=true/\r=.ok (.d (h i j)):=by
 unfold gI at e
 split at e
 ·rename_i i j
  split at e
  ·cases e; exact ⟨i,j,rfl,rfl,by assumption,rfl⟩
  ·cases e
 ·cases e
theorem sY {f:Value->Value->Sem Value} {C:Int->Int->Bool} {CP:Int->Int->Prop} {h:Int->Int->D} {hv:Int->Int->V} (ho:rB X f (rI CP hv)) (hC:∀i j,C i j=true->CP i j) (hr:∀i j Z H,Rp Z H (h i j) (hv i j)):gZ X E f (gI C h):=
 gZ.rule ho fun O P H₀ H x y v u r Q hd hs rx ry e q=>by
  obtain ⟨i,j,rfl,rfl,hc,rfl⟩:=uR e
  cases rx; cases ry
  exact ⟨i,j,rfl,rfl,hC i j hc,q _ H (aD.refl H) (hr i j _ _)⟩
noncomputable def wu (_ _:Int):Bool:=true
theorem il {f:Value->Value->Sem Value} {h:Int->Int->D} {hv:Int->Int->V} (ho:rB X f (DA hv)) (hr:∀i j Z H,Rp Z H (h i j) (hv i j)):gZ X E f (gI wu h):=
 gZ.rule ho fun O P H₀ H x y v u r Q hd hs rx ry e q=>by
  obtain ⟨i,j,rfl,rfl,hc,rfl⟩:=uR e
  cases rx; cases ry
  exact ⟨i,j,rfl,rfl,q _ H (aD.refl H) (hr i j _ _)⟩
noncomputable def BJ:=gI wu fun i j=>.int (i+j)
noncomputable def gSub:=gI wu fun i j=>.int (i-j)
noncomputable def wY (i j:Int):Bool:=(decide (-(2 ^ 64)<i)&&decide (i<2 ^ 64))||(decide (-(2 ^ 64)<j)&&decide (j<2 ^ 64))
noncomputable def GJ:=gI wY fun i j=>.int (i*j)
noncomputable def Gb (_ j:Int):Bool:=decide (0<j)&&decide (j<1073741824)
noncomputable def BY:=gI Gb fun i j=>.int (i / j)
noncomputable def FK (_ j:Int):Bool:=decide (0<j)
noncomputable def jT:=gI FK fun i j=>.int (i % j)
noncomputable def Jd:=gI wu fun i j=>.bool (decide (i<j))
noncomputable def Ip:=gI wu fun i j=>.bool (decide (i<=j))
noncomputable def Cd:=gI wu fun i j=>.bool (decide (j<i))
noncomputable def Cg:=gI wu fun i j=>.bool (decide (j<=i))
theorem Gr:gZ X E (binaryOp .Add) BJ:=il GP fun _ _ _ _=>.int _
theorem iX:gZ X E (binaryOp .Sub) gSub:=il Gf fun _ _ _ _=>.int _
theorem FL:gZ X E (binaryOp .Mult) GJ:=sY FU (fun i j h=>by simpa [wY,DM] using h) fun _ _ _ _=>.int _
theorem zK:gZ X E (binaryOp .FloorDiv) BY:=sY DP (fun i j h=>by simpa [Gb,HU] using h) fun _ _ _ _=>.int _
theorem ja:gZ X E (binaryOp .Mod) jT:=sY GA (fun i j h=>by simpa [FK] using h) fun _ _ _ _=>.int _
theorem Ii:gZ X E (compareOp .Lt) Jd:=il Ic fun _ _ _ _=>.bool _
theorem Hc:gZ X E (compareOp .LtE) Ip:=il Ie fun _ _ _ _=>.bool _
theorem Am:gZ X E (compareOp .Gt) Cd:=il Hk fun _ _ _ _=>.bool _
theorem uE:gZ X E (compareOp .GtE) Cg:=il Hu fun _ _ _ _=>.bool _
end
noncomputable def cI (st:Bool) (i j:Int):Bool:=if st=true then decide (i<j) else decide (i<=j)
noncomputable def cS (st:Bool) (x y:Str):Bool:=if st=true then decide (x.cps.toList<y.cps.toList) else !decide (y.cps.toList<x.cps.toList)
mutual
noncomputable def cD (st:Bool):PyData->PyData->Option Bool
 |.int i,.int j=>some (cI st i j)
 |.str x,.str y=>some (cS st x y)
 |.tuple xs,.tuple ys=>cL st xs ys
 |_,_=>none
noncomputable def cL (st:Bool):List PyData->List PyData->Option Bool
 |[],[]=>some (!st)
 |[],_::_=>some true
 |_::_,[]=>some false
 |x::xs,y::ys=>if PyData.eqv x y=true then cL st xs ys else cD st x y
end
noncomputable def Jv (st:Bool):CmpOp:=if st=true then .Lt else .LtE
noncomputable def Iv (A:Around) (s:Shared) (st:Bool) (a b:Value) (k:Bool):Prop:=
 ∀(prog:Program) (w:World) (E:Value->Shared->Prop) (Q:Value->Shared->Prop),Q (.bool k) s->wpAny (model prog w) A (richCompare (Jv st) a b) Q E s
theorem uY {st:Bool} {k:Bool}:∀{xs ys:List PyData} {vs ws:List Value} {as bs:List Addr} {h:Heap},ReadsAll h vs xs as->ReadsAll h ws ys bs->vs.zip ws=[]->cL st xs ys=some k ->
  k=(if st=true then decide (vs.length<ws.length) else decide (vs.length<=ws.length))
 |_,_,_,_,_,_,_,.nil,.nil,_,e=>by
  unfold cL at e; cases e; cases st <;> rfl
 |_,_,_,_,_,_,_,.nil,.cons _ _,_,e=>by
  unfold cL at e; cases e; cases st <;> simp
 |_,_,_,_,_,_,_,.cons _ _,.nil,_,e=>by
  unfold cL at e; cases e; cases st <;> simp
 |_,_,_,_,_,_,_,.cons _ _,.cons _ _,z,_=>by cases z
section
open PySem.SeqAt
open PySem.AutoSeq1 (wpAny_loadPart')
open PySem.MeetsSeq PySem.MeetsSeq2 PySem.MeetsSeq3
theorem qJ (l b:Addr) (items items2:Array Value) (n n2:Nat) (dd dd2:Option Addr) (sl sl2:Array (Option Value)) (xs ys:List PyData) (k:Bool) (hk:cL true xs ys=some k)
  (ih:∀(A:Around) (s:Shared) (x y:PyData) (a c:Value) (as bs:List Addr) (j:Bool),x∈xs->Reads s.heap a x as->Reads s.heap c y bs->x.canLay0=true->y.canLay0=true->A.units+x.depth<cLine->cD true x y=some j->Iv A s true a c j) :
  Meets (Builtin.«tuple.__lt__» ⟨[.ref l,.ref b],[]⟩)
   (fun A R s=>s.heap.get? l=some { cls:=.type "tuple",dict:=dd,data:=.seq items n,slots:=sl }/\s.heap.get? b=some { cls:=.type "tuple",dict:=dd2,data:=.seq items2 n2,slots:=sl2 } /\
    (∃as,ReadsAll s.heap items.toList xs as)/\(∃as,ReadsAll s.heap items2.toList ys as)/\PyData.canLayAll0 xs=true/\PyData.canLayAll0 ys=true/\A.units+1+PyData.depthAll xs<cLine/\R (.ok (.ret (.bool k))) s):=
 .of_wp fun prog w A R s h=>by
  obtain ⟨hp,g,d,tk,os⟩:=s; obtain ⟨hl,hb,⟨as,hi⟩,⟨bs,hj⟩,c1,c2,hu,h⟩:=h
  have f2:=AutoSeq1.sub_tuple_tuple
  wp_walk using wpAny_loadPart' hl,wpAny_loadPart' hb,wpAny_forIn_list _ (fun eL b s'=>b.1=none/\s'=⟨hp,g,d,tk,os⟩/\∃(vs ws:List Value) (xs' ys':List PyData) (as' bs':List Addr),eL=vs.zip ws /\
   ReadsAll hp vs xs' as'/\ReadsAll hp ws ys' bs'/\vs.length+items2.size=ws.length+items.size/\(∀x∈xs',x∈xs)/\PyData.canLayAll0 xs'=true/\PyData.canLayAll0 ys'=true/\PyData.depthAll xs'<=PyData.depthAll xs/\cL true xs' ys'=some k) _
  case turn=>
   rintro ⟨y,x⟩ eL b s' ⟨hb',rfl,vs,ws,xs',ys',as',bs',hz,hvi,hwi,hlen,hsub,l1,l2,hdp,hc⟩
   cases hvi with
   |nil=>rw [List.zip_nil_left] at hz; cases hz
   |@cons v1 vs1 x1 xs1 a1 as1 rv hvi'=>
    cases hwi with
    |nil=>rw [List.zip_nil_right] at hz; cases hz
    |@cons w1 ws1 y1 ys1 b1 bs1 rw1 hwi'=>
     rw [List.zip_cons_cons] at hz
     injection hz with hyx hrest
     injection hyx with hy hx
     subst hy hx
     unfold PyData.canLayAll0 at l1 l2
     rw [Bool.and_eq_true] at l1 l2
     unfold cL at hc
     have hdc:PyData.depthAll (x1::xs1)=max x1.depth (PyData.depthAll xs1):=by rw [PyData.depthAll]
     rw [hdc] at hdp
     simp only [List.length_cons] at hlen
     have he:=eqAt_reads x1 y1 A.in1 ⟨hp,g,d,tk,os⟩ _ _ _ _ rv rw1 l1.1 l2.1 (by show A.units+1+_<cLine; lia)
     refine J6 (he prog w _ _ ?_)
     cases e:PyData.eqv x1 y1 with
     |true=>
      rw [e,if_pos rfl] at hc
      wp_walk
      exact ⟨rfl,rfl,_,_,_,_,_,_,hrest,hvi',hwi',0x1,fun z hz=>hsub z (JY _ hz),l1.2,l2.2,0x1,hc⟩
     |false=>
      rw [e,if_neg Bool.false_ne_true] at hc
      have hri:∀(E:Value->Shared->Prop) (Q:Value->Shared->Prop),Q (.bool k) ⟨hp,g,d,tk,os⟩->wpAny (model prog w) A.in1 (richCompare .Lt _ _) Q E ⟨hp,g,d,tk,os⟩:=ih A.in1 ⟨hp,g,d,tk,os⟩ x1 y1 _ _ _ _ k (hsub x1 JZ) rv rw1 l1.1 l2.1 (by show A.units+1+_<cLine; lia) hc prog w
      wp_walk using hri
      exact ⟨_,rfl,by simpa using h⟩
  case fin=>
   rintro ⟨b1,b2⟩ s' ⟨hb',rfl,vs,ws,xs',ys',as',bs',hz,hvi,hwi,hlen,hsub,l1,l2,hdp,hc⟩
   simp only at hb'
   subst hb'
   have hv:=uY hvi hwi hz.symm hc
   simp only [if_true] at hv
   have hv2:decide (vs.length<ws.length)=decide (items.size<items2.size):=by
    by_cases q:vs.length<ws.length
    ·rw [decide_eq_true q,decide_eq_true 0x1]
    ·rw [decide_eq_false q,decide_eq_false 0x1]
   rw [hv2] at hv
   rw [hv] at h
   wp_walk
   exact ⟨_,rfl,by simpa [Builtin.Tuple.tupleCompareSizes] using h⟩
  case h=>
   exact ⟨rfl,rfl,items.toList,items2.toList,xs,ys,as,bs,rfl,hi,hj,by simp; lia,fun _ hx=>hx,c1,c2,J5 _,hk⟩
theorem qN (l b:Addr) (items items2:Array Value) (n n2:Nat) (dd dd2:Option Addr) (sl sl2:Array (Option Value)) (xs ys:List PyData) (k:Bool) (hk:cL false xs ys=some k)
  (ih:∀(A:Around) (s:Shared) (x y:PyData) (a c:Value) (as bs:List Addr) (j:Bool),x∈xs->Reads s.heap a x as->Reads s.heap c y bs->x.canLay0=true->y.canLay0=true->A.units+x.depth<cLine->cD false x y=some j->Iv A s false a c j) :
  Meets (Builtin.«tuple.__le__» ⟨[.ref l,.ref b],[]⟩)
   (fun A R s=>s.heap.get? l=some { cls:=.type "tuple",dict:=dd,data:=.seq items n,slots:=sl }/\s.heap.get? b=some { cls:=.type "tuple",dict:=dd2,data:=.seq items2 n2,slots:=sl2 } /\
    (∃as,ReadsAll s.heap items.toList xs as)/\(∃as,ReadsAll s.heap items2.toList ys as)/\PyData.canLayAll0 xs=true/\PyData.canLayAll0 ys=true/\A.units+1+PyData.depthAll xs<cLine/\R (.ok (.ret (.bool k))) s):=
 .of_wp fun prog w A R s h=>by
  obtain ⟨hp,g,d,tk,os⟩:=s; obtain ⟨hl,hb,⟨as,hi⟩,⟨bs,hj⟩,c1,c2,hu,h⟩:=h
  have f2:=AutoSeq1.sub_tuple_tuple
  wp_walk using wpAny_loadPart' hl,wpAny_loadPart' hb,wpAny_forIn_list _ (fun eL b s'=>b.1=none/\s'=⟨hp,g,d,tk,os⟩/\∃(vs ws:List Value) (xs' ys':List PyData) (as' bs':List Addr),eL=vs.zip ws /\
   ReadsAll hp vs xs' as'/\ReadsAll hp ws ys' bs'/\vs.length+items2.size=ws.length+items.size/\(∀x∈xs',x∈xs)/\PyData.canLayAll0 xs'=true/\PyData.canLayAll0 ys'=true/\PyData.depthAll xs'<=PyData.depthAll xs/\cL false xs' ys'=some k) _
  case turn=>
   rintro ⟨y,x⟩ eL b s' ⟨hb',rfl,vs,ws,xs',ys',as',bs',hz,hvi,hwi,hlen,hsub,l1,l2,hdp,hc⟩
   cases hvi with
   |nil=>rw [List.zip_nil_left] at hz; cases hz
   |@cons v1 vs1 x1 xs1 a1 as1 rv hvi'=>
    cases hwi with
    |nil=>rw [List.zip_nil_right] at hz; cases hz
    |@cons w1 ws1 y1 ys1 b1 bs1 rw1 hwi'=>
     rw [List.zip_cons_cons] at hz
     injection hz with hyx hrest
     injection hyx with hy hx
     subst hy hx
     unfold PyData.canLayAll0 at l1 l2
     rw [Bool.and_eq_true] at l1 l2
     unfold cL at hc
     have hdc:PyData.depthAll (x1::xs1)=max x1.depth (PyData.depthAll xs1):=by rw [PyData.depthAll]
     rw [hdc] at hdp
     simp only [List.length_cons] at hlen
     have he:=eqAt_reads x1 y1 A.in1 ⟨hp,g,d,tk,os⟩ _ _ _ _ rv rw1 l1.1 l2.1 (by show A.units+1+_<cLine; lia)
     refine J6 (he prog w _ _ ?_)
     cases e:PyData.eqv x1 y1 with
     |true=>
      rw [e,if_pos rfl] at hc
      wp_walk
      exact ⟨rfl,rfl,_,_,_,_,_,_,hrest,hvi',hwi',0x1,fun z hz=>hsub z (JY _ hz),l1.2,l2.2,0x1,hc⟩
     |false=>
      rw [e,if_neg Bool.false_ne_true] at hc
      have hri:∀(E:Value->Shared->Prop) (Q:Value->Shared->Prop),Q (.bool k) ⟨hp,g,d,tk,os⟩->wpAny (model prog w) A.in1 (richCompare .LtE _ _) Q E ⟨hp,g,d,tk,os⟩:=ih A.in1 ⟨hp,g,d,tk,os⟩ x1 y1 _ _ _ _ k (hsub x1 JZ) rv rw1 l1.1 l2.1 (by show A.units+1+_<cLine; lia) hc prog w
      wp_walk using hri
      exact ⟨_,rfl,by simpa using h⟩
  case fin=>
   rintro ⟨b1,b2⟩ s' ⟨hb',rfl,vs,ws,xs',ys',as',bs',hz,hvi,hwi,hlen,hsub,l1,l2,hdp,hc⟩
   simp only at hb'
   subst hb'
   have hv:=uY hvi hwi hz.symm hc
   simp only [Bool.false_eq_true,if_false] at hv
   have hv2:decide (vs.length<=ws.length)=decide (items.size<=items2.size):=by
    by_cases q:vs.length<=ws.length
    ·rw [decide_eq_true q,decide_eq_true 0x1]
    ·rw [decide_eq_false q,decide_eq_false 0x1]
   rw [hv2] at hv
   rw [hv] at h
   wp_walk
   exact ⟨_,rfl,by simpa [Builtin.Tuple.tupleCompareSizes] using h⟩
  case h=>
   exact ⟨rfl,rfl,items.toList,items2.toList,xs,ys,as,bs,rfl,hi,hj,by simp; lia,fun _ hx=>hx,c1,c2,J5 _,hk⟩
end
theorem qQ:∀(n:Nat) (st:Bool) (da db:PyData) (A:Around) (s:Shared) (a b:Value) (as bs:List Addr) (k:Bool),sizeOf da<n->Reads s.heap a da as->Reads s.heap b db bs->da.canLay0=true->db.canLay0=true ->
  A.units+da.depth<cLine->cD st da db=some k->Iv A s st a b k
 |0,_,_,_,_,_,_,_,_,_,_,h,_,_,_,_,_,_=>absurd h (Nat.not_lt_zero _)
 |n+1,st,da,db,A,s,a,b,as,bs,k,hn,ra,rb,ha,hb,hu,hk=>by
  intro prog w E Q hQ
  cases ra with
  |none=>cases db <;> simp [cD] at hk
  |bool x=>cases db <;> simp [cD] at hk
  |list _ _ _ _=>cases db <;> simp [cD] at hk
  |dict _ _ _ _ _=>cases db <;> simp [cD] at hk
  |int i t=>
   cases rb with
   |int j u=>
    simp only [cD] at hk
    cases hk
    cases st with
    |true=>exact (PyProof.Rows.lt_int hQ:wpAny (model prog w) A (compareOp .Lt (.int i t) (.int j u)) Q E s)
    |false=>exact (PyProof.Rows.le_int hQ:wpAny (model prog w) A (compareOp .LtE (.int i t) (.int j u)) Q E s)
   |_=>simp [cD] at hk
  |str x t=>
   cases rb with
   |str y u=>
    simp only [cD] at hk
    cases hk
    cases st with
    |true=>exact (PySem.P.lt_str hQ:wpAny (model prog w) A (compareOp .Lt (.str x t) (.str y u)) Q E s)
    |false=>exact (PySem.P.le_str (by simpa [cS] using hQ):wpAny (model prog w) A (compareOp .LtE (.str x t) (.str y u)) Q E s)
   |_=>simp [cD] at hk
  |@tuple a o vs n1 xs as e1 c1 d1 l1=>
   cases rb with
   |@tuple b o2 ws n2 ys bs e2 c2 d2 l2=>
    simp only [cD] at hk
    unfold PyData.canLay0 at ha hb
    unfold PyData.depth at hu
    obtain ⟨cls,dd,data,sl⟩:=o
    obtain ⟨cls2,dd2,data2,sl2⟩:=o2
    simp only at c1 d1 c2 d2
    subst c1 d1 c2 d2
    have ih:∀(A:Around) (s:Shared) (x y:PyData) (a c:Value) (as bs:List Addr) (j:Bool),x∈xs->Reads s.heap a x as->Reads s.heap c y bs->x.canLay0=true->y.canLay0=true->A.units+x.depth<cLine->cD st x y=some j->Iv A s st a c j:=
     fun A s x y a c as bs j hx r1 r2 k1 k2 hu' hj=>qQ n st x y A s a c as bs j (by
      have:=List.sizeOf_lt_of_mem hx
      simp only [PyData.tuple.sizeOf_spec] at hn
      lia) r1 r2 k1 k2 hu' hj
    cases st with
    |true=>
     exact richCompare_meets_room (op:=.Lt) ⟨_,e1,rfl⟩ ⟨_,e2,rfl⟩ PySem.F.slot_tuple_lt PySem.F.entry_tuple_lt (PySem.F.args_tuple_lt_2 _ _) (qJ a b vs ws n1 n2 dd dd2 sl sl2 xs ys k hk ih)
      ⟨e1,e2,⟨_,l1⟩,⟨_,l2⟩,ha,hb,0x1,show Value.bool k≠Value.notImplemented/\Q (.bool k) s from ⟨(fun x=>nomatch x),hQ⟩⟩ 0x1
    |false=>
     exact richCompare_meets_room (op:=.LtE) ⟨_,e1,rfl⟩ ⟨_,e2,rfl⟩ PySem.F.slot_tuple_le PySem.F.entry_tuple_le (PySem.F.args_tuple_le_2 _ _) (qN a b vs ws n1 n2 dd dd2 sl sl2 xs ys k hk ih)
      ⟨e1,e2,⟨_,l1⟩,⟨_,l2⟩,ha,hb,0x1,show Value.bool k≠Value.notImplemented/\Q (.bool k) s from ⟨(fun x=>nomatch x),hQ⟩⟩ 0x1
   |_=>simp [cD] at hk
noncomputable def oM:DV->Option D
 |.d x=>some x
 |.own xs=>some (.list xs)
 |.new xs=>some (.list xs)
 |_=>none
@[simp] theorem qU (x:D):oM (.d x)=some x:=rfl
@[simp] theorem se (xs:List D):oM (.own xs)=some (.list xs):=rfl
@[simp] theorem si (xs:List D):oM (.new xs)=some (.list xs):=rfl
section
variable {X:Cx} {E:XK}
theorem pQ {pins:List (Addr×Obj)} {σ:St} {H:Hp} {s:Shared} (I:Inv X pins σ H s) {Z:List Addr} {a:Addr} {xs:List D} {vs:List V} (q:H a=some (.lst vs)) (l:RpL Z H xs vs):∃as,Reads s.heap (.ref a) (.list xs) as:=by
 obtain ⟨its,rv,⟨o,n,e,c,_,dd⟩,_⟩:=I.list (gg.of q)
 obtain ⟨as,ra⟩:=RpL.reads I l rv
 exact ⟨_,.list e c dd (by simpa using ra)⟩
theorem RE.reads {pins:List (Addr×Obj)} {σ:St} {O P:List Addr} {H₀ H:Hp} {s:Shared} {x:DV} {v:V} {u:Value} {d:D} (I:Inv X pins σ H s) (r:RE O P H₀ H x v) (ru:br v u) (h:oM x=some d):(∃as,Reads s.heap u d as)/\d.canLay0=true:=by
 cases x with
 |d y=>
  cases h
  have r':Rp (P++O) H d v:=r
  exact ⟨Rp.reads I r' ru,r'.lay⟩
 |ob C fs=>cases h
 |fz kvs=>cases h
 |ex q=>cases h
 |tpo p xs q=>cases h
 |nwt p xs q=>cases h
 |own xs=>
  cases h
  obtain ⟨a,vs,rfl,hP,ha,hl⟩:=r
  cases ru
  exact ⟨pQ I ha hl,by unfold PyData.canLay0; exact hl.lay⟩
 |new xs=>
  cases h
  obtain ⟨a,vs,rfl,hn,ha,hl⟩:=r
  cases ru
  exact ⟨pQ I ha hl,by unfold PyData.canLay0; exact hl.lay⟩
 |scr K ns=>cases h
noncomputable def g7 (neg:Bool) (x y:DV):M DV:=match oM x,oM y with
 |some a,some b=>if a.depth<=60 then rt (.d (.bool (if neg=true then !PyData.eqv a b else PyData.eqv a b))) else none
 |_,_=>none
theorem rQ {neg:Bool} {x y:DV} {r:Except Value DV} (e:g7 neg x y=some r):∃a b,oM x=some a/\oM y=some b/\a.depth<=60/\r=.ok (.d (.bool (if neg=true then !PyData.eqv a b else PyData.eqv a b))):=by
 unfold g7 at e
 split at e
 ·rename_i a b h1 h2
  split at e
  ·cases e; exact ⟨a,b,h1,h2,by assumption,rfl⟩
  ·cases e
 ·cases e
theorem jP (hu:X.A.units+64<cLine):gZ X E (compareOp .Eq) (g7 false):=fun pins s σ O P H₀ H x y v u vv uu r Q I hd hs rx ry ev eu e q=>by
 obtain ⟨a,b,h1,h2,hdp,rfl⟩:=rQ e
 obtain ⟨⟨as,ra⟩,la⟩:=rx.reads I ev h1
 obtain ⟨⟨bs,rb⟩,lb⟩:=ry.reads I eu h2
 exact SeqAt.compareEq_reads ra rb la lb (by have:=Nat.min_le_left a.depth b.depth; lia) ⟨.bl _,H,I,rfl,q _ H (aD.refl H) (.bool _)⟩
theorem ED (hu:X.A.units+64<cLine):gZ X E (compareOp .NotEq) (g7 true):=fun pins s σ O P H₀ H x y v u vv uu r Q I hd hs rx ry ev eu e q=>by
 obtain ⟨a,b,h1,h2,hdp,rfl⟩:=rQ e
 obtain ⟨⟨as,ra⟩,la⟩:=rx.reads I ev h1
 obtain ⟨⟨bs,rb⟩,lb⟩:=ry.reads I eu h2
 exact SeqAt.compareNe_reads ra rb la lb (by have:=Nat.min_le_left a.depth b.depth; lia) ⟨.bl _,H,I,rfl,q _ H (aD.refl H) (.bool _)⟩
noncomputable def yX (neg:Bool) (x y:DV):M DV:=match oM x,oM y with
 |some a,some (.list ys)=>if a.depth<=60 then rt (.d (.bool (if neg=true then !ys.any (fun z=>PyData.eqv z a) else ys.any fun z=>PyData.eqv z a))) else none
 |some a,some (.tuple ys)=>if a.depth<=60 then rt (.d (.bool (if neg=true then !ys.any (fun z=>PyData.eqv z a) else ys.any fun z=>PyData.eqv z a))) else none
 |_,_=>none
theorem yZ {neg:Bool} {x y:DV} {r:Except Value DV} (e:yX neg x y=some r):∃a ys,oM x=some a/\(oM y=some (.list ys)\/oM y=some (.tuple ys))/\a.depth<=60/\r=.ok (.d (.bool (if neg=true then !ys.any (fun z=>PyData.eqv z a) else ys.any fun z=>PyData.eqv z a))):=by
 unfold yX at e
 split at e
 ·rename_i a b h1 h2
  split at e
  ·cases e; exact ⟨a,_,h1,.inl h2,by assumption,rfl⟩
  ·cases e
 ·rename_i a b h1 h2
  split at e
  ·cases e; exact ⟨a,_,h1,.inr h2,by assumption,rfl⟩
  ·cases e
 ·cases e
theorem zW (hu:X.A.units+64<cLine):gZ X E (compareOp .In) (yX false):=fun pins s σ O P H₀ H x y v u vv uu r Q I hd hs rx ry ev eu e q=>by
 obtain ⟨a,ys,h1,h2,hdp,rfl⟩:=yZ e
 obtain ⟨⟨as,ra⟩,la⟩:=rx.reads I ev h1
 rcases h2 with h2|h2
 ·obtain ⟨⟨bs,rb⟩,lb⟩:=ry.reads I eu h2
  unfold PyData.canLay0 at lb
  exact SeqAt.in_list_reads rb ra lb la (by have:=Nat.min_le_right (PyData.depthAll ys) a.depth; lia) ⟨.bl _,H,I,rfl,q _ H (aD.refl H) (.bool _)⟩
 ·obtain ⟨⟨bs,rb⟩,lb⟩:=ry.reads I eu h2
  unfold PyData.canLay0 at lb
  exact SeqAt.in_tuple_reads rb ra lb la (by have:=Nat.min_le_right (PyData.depthAll ys) a.depth; lia) ⟨.bl _,H,I,rfl,q _ H (aD.refl H) (.bool _)⟩
noncomputable def gC (st:Bool) (x y:DV):M DV:=match x,y with
 |.d a,.d b=>if a.depth<=60 then bd (op (cD st a b)) fun k=>rt (.d (.bool k)) else none
 |_,_=>none
theorem Ap (st:Bool) (hu:X.A.units+64<cLine):gZ X E (compareOp (Jv st)) (gC st):=fun pins s σ O P H₀ H x y v u vv uu r Q I hd hs rx ry ev eu e q=>by
 unfold gC at e
 split at e
 ·rename_i a b
  split at e
  ·rename_i hdp
   cases hk:cD st a b with
   |none=>rw [hk] at e; cases e
   |some k=>
    rw [hk] at e
    cases e
    obtain ⟨⟨as,ra⟩,la⟩:=rx.reads I ev (d:=a) rfl
    obtain ⟨⟨bs,rb⟩,lb⟩:=ry.reads I eu (d:=b) rfl
    have h:=qQ _ st a b X.A s vv uu as bs k (Nat.lt_succ_self _) ra rb la lb 0x1 hk X.prog X.w X.xe (EP X pins σ Q) ⟨.bl _,H,I,rfl,q _ H (aD.refl H) (.bool _)⟩
    cases st with
    |true=>exact h
    |false=>exact h
  ·cases e
 ·cases e
theorem Fe (hu:X.A.units+64<cLine):gZ X E (compareOp .Lt) (gC true):=Ap true hu
theorem GB (hu:X.A.units+64<cLine):gZ X E (compareOp .LtE) (gC false):=Ap false hu
noncomputable def zP (x y:DV):M DV:=match mj x,mj y with
 |some xs,some ys=>if xs.length+ys.length<=1000000 then rt (.new (xs++ys)) else none
 |_,_=>none
theorem eW {n:Nat} (h:n<=1000000):n<=sizeLine:=Nat.le_trans h (by rw [sizeLine_eq]; decide)
theorem En {O P:List Addr} {H₀ H:Hp} {p:Addr} (hd:∀a,a∈P++O->∃o,H₀ a=some o) (hs:aD H₀ H) (hp:H p=none):p∉P++O:=fun h=>by
 obtain ⟨o,e⟩:=hd p h
 rw [hs p o e] at hp; cases hp
theorem a9 {H:Hp} {p:Addr} {o:HO} (hp:H p=none):aD H (upd H p o):=fun b u e=>by rw [aA (bF e hp)]; exact e
theorem Gv {Z:List Addr} {H:Hp} {p:Addr} {o:HO} (hp:H p=none):Kp Z H (p::Z) (upd H p o):=⟨fun a u _ e=>a9 hp a u e,fun a ha=>by
 rcases List.mem_cons.mp ha with e|e
 ·subst e; exact .inr hp
 ·exact .inl e⟩
theorem RE.made {O P:List Addr} {H₀ H:Hp} {p:Addr} {xs:List D} {vs:List V} (hs:aD H₀ H) (hp:H p=none) (l:RpL (P++O) H xs vs):RE O P H₀ (upd H p (.lst vs)) (.new xs) (.ref p):=
 ⟨p,vs,rfl,hs.free hp,aN,l.kp (Gv hp)⟩
theorem BZ {O P:List Addr} {H₀ H:Hp} {p:Addr} {xs:List D} {vs:List V} (hd:∀a,a∈P++O->∃o,H₀ a=some o) (hs:aD H₀ H) (hp:H p=none) (l:RpL (P++O) H xs vs):RE O P H₀ (upd H p (.tup vs)) (.d (.tuple xs)) (.ref p):=
 .tup (En hd hs hp) aN (l.kp (.same (a9 hp)))
theorem wb {x y:DV} {r:Except Value DV} (e:zP x y=some r):∃xs ys,mj x=some xs/\mj y=some ys/\xs.length+ys.length<=1000000/\r=.ok (.new (xs++ys)):=by
 unfold zP at e
 split at e
 ·rename_i xs ys h1 h2
  split at e
  ·cases e; exact ⟨xs,ys,h1,h2,by assumption,rfl⟩
  ·cases e
 ·cases e
theorem F6:gZ X E (binaryOp .Add) zP:=gZ.rule Fj fun O P H₀ H x y v u r Q hd hs rx ry e q=>by
 obtain ⟨xs,ys,h1,h2,hz,rfl⟩:=wb e
 obtain ⟨a,vs,rfl,ha,la⟩:=rx.list h1
 obtain ⟨b,us,rfl,hb,lb⟩:=ry.list h2
 exact ⟨a,b,vs,us,rfl,rfl,ha,hb,eW (by rw [<-la.length,<-lb.length]; exact hz),fun p hp=>q _ _ (a9 hp) (RE.made hs hp (la.append lb))⟩
noncomputable def FC (x y:DV):M DV:=match mj x,y with
 |some xs,.d (.int k)=>if xs.length*k.toNat<=1000000/\-(2 ^ 63)<=k/\k<2 ^ 63 then rt (.new (List.replicate k.toNat xs).flatten) else none
 |_,_=>none
theorem GS:gZ X E (binaryOp .Mult) FC:=gZ.rule Gm fun O P H₀ H x y v u r Q hd hs rx ry e q=>by
 unfold FC at e
 split at e
 ·rename_i xs k h1
  split at e
  ·rename_i hz
   cases e
   obtain ⟨a,vs,rfl,ha,la⟩:=rx.list h1
   cases ry
   exact ⟨a,k,vs,rfl,rfl,ha,hz.2.1,hz.2.2,eW (by rw [<-la.length]; exact hz.1),fun p hp=>q _ _ (a9 hp) (RE.made hs hp (la.rep _))⟩
  ·cases e
 ·cases e
noncomputable def AZ (g g':DV->DV->M DV) (x y:DV):M DV:=match g x y with
 |none=>g' x y
 |some r=>some r
theorem gZ.or {f:Value->Value->Sem Value} {g g':DV->DV->M DV} (h:gZ X E f g) (h':gZ X E f g'):gZ X E f (AZ g g'):=fun pins s σ O P H₀ H x y v u vv uu r Q I hd hs rx ry ev eu e q=>by
 unfold AZ at e
 cases hg:g x y with
 |none=>rw [hg] at e; exact h' pins s σ O P H₀ H x y v u vv uu r Q I hd hs rx ry ev eu e q
 |some r'=>rw [hg] at e; cases e; exact h pins s σ O P H₀ H x y v u vv uu r Q I hd hs rx ry ev eu hg q
end
theorem Ak {α β γ:Type} (m:M α) (f:α->M β) (g:β->M γ):bd (bd m f) g=bd m fun a=>bd (f a) g:=by
 cases m with
 |none=>rfl
 |some z=>cases z <;> rfl
noncomputable def bI:DV->M Bool
 |.d (.bool b)=>rt b
 |_=>none
@[simp] theorem xC (b:Bool):bI (.d (.bool b))=rt b:=rfl
theorem mG {x:DV} {r:Except Value Bool} (h:bI x=some r):∃b,x=.d (.bool b)/\r=.ok b:=by
 unfold bI at h
 split at h
 ·rename_i b
  cases h; exact ⟨b,rfl,rfl⟩
 ·cases h
section
variable {X:Cx} {E:XK} {a b c e:Expr} {pos:Pos} {fa fb fc f:DS->M DV} {ga gb:DS->M Bool}
theorem sM {O P:List Addr} {H₀ H:Hp} {x:DV} {v:V} {r:Except Value Bool} {Q:Bool->Hp->Prop} (rx:RE O P H₀ H x v) (h:bI x=some r) (q:Ck E H Q r):∃k,v=.bl k/\Q k H:=by
 obtain ⟨k,rfl,rfl⟩:=mG h
 cases rx
 exact ⟨k,rfl,q H (aD.refl H)⟩
theorem kQ (h:PX X E e f) (he:∀whole,isTrue e X.env whole=(do let v <-whole; standAt e.pos; holding [v] (truthy v)):=by intro _; rfl):PB X E e (fun δ=>bd (f δ) bI):=
 PT.mono (Gh h he) fun σ H Q q=>tj (g:=fun _=>bI) q fun O P δ x r v H1 rs rs1 s1 rx e' q'=>sM rx e' q'
theorem JG {g:DV->DV->M DV} {σ:St} {H:Hp} {Q:Bool->Hp->Prop} (h:BC E (fun δ=>bd (e2 g fa fb δ) bI) σ H Q) {t:V->V->Hp->Prop}
  (k:∀O P x y r v u H1,(∀a,a∈P++O->∃o,H a=some o)->aD H H1->RE O P H H1 x v->RE O P H H1 y u->bd (g x y) bI=some r->Ck E H1 Q r->t v u H1) :
  tE E fa σ H fun v H1=>tE E fb σ H1 fun u H2=>t v u H2:=by
 have h':BC E (fun δ=>bd (fa δ) fun x=>bd (bd (fb δ) fun y=>g x y) bI) σ H Q:=by
  obtain ⟨O,P,δ,r,rs,e,q⟩:=h
  exact ⟨O,P,δ,r,rs,(Ak _ _ _).symm.trans e,q⟩
 refine tj (g:=fun δ x=>bd (bd (fb δ) fun y=>g x y) bI) h' fun O P δ x r v H1 rs rs1 s1 rx e q=>?_
 rcases az e with ⟨z,e1,e2⟩|⟨c,e1,e2⟩
 ·rcases az e1 with ⟨y,e3,e4⟩|⟨c,e3,e4⟩
  ·exact ⟨O,P,δ,.ok y,rs1,e3,fun u H2 s2 ry=>k O P x y r v u H2 rs.dom (s1.trans s2) (rx.on s2) (ry.from s1) (by rw [e4]; exact e2) (q.on s2)⟩
  ·cases e4
 ·rcases az e1 with ⟨y,e3,e4⟩|⟨c',e3,e4⟩
  ·exact ⟨O,P,δ,.ok y,rs1,e3,fun u H2 s2 ry=>k O P x y r v u H2 rs.dom (s1.trans s2) (rx.on s2) (ry.from s1) (by rw [e4]; subst e2; rfl) (q.on s2)⟩
  ·cases e4
   subst e2
   exact ⟨O,P,δ,.error c,rs1,e3,q⟩
theorem gZ.test {o:Value->Value->Sem Value} {g:DV->DV->M DV} (ho:gZ X E o g) {pins:List (Addr×Obj)} {s:Shared} {σ:St} {O P:List Addr} {H₀ H:Hp} {x y:DV} {v u:V} {vv uu:Value} {r:Except Value Bool} {Q:Bool->Hp->Prop}
  (I:Inv X pins σ H s) (hd:∀a,a∈P++O->∃o,H₀ a=some o) (hs:aD H₀ H) (rx:RE O P H₀ H x v) (ry:RE O P H₀ H y u) (ev:br v vv) (eu:br u uu) (e:bd (g x y) bI=some r) (q:Ck E H Q r) :
  wpAny (model X.prog X.w) X.A (o vv uu) (EP X pins σ fun z H2=>∃k,z=.bl k/\Q k H2) X.xe s:=by
 rcases az e with ⟨z,e1,e2⟩|⟨c,e1,e2⟩
 ·refine ho pins s σ O P H₀ H x y v u vv uu (.ok z) _ I hd hs rx ry ev eu e1 fun w H2 s2 rz=>sM rz e2 (q.on s2)
 ·subst e2
  exact ho pins s σ O P H₀ H x y v u vv uu (.error c) _ I hd hs rx ry ev eu e1 q
theorem bK {o:CmpOp} {g:DV->DV->M DV} (ho:gZ X E (compareOp o) g) (ha:PX X E a fa) (hb:PX X E b fb) (hm:behindInMarks o b=false:=by first|exact wt _|rfl):PB X E (.Compare a [o] [b] pos) (fun δ=>bd (e2 g fa fb δ) bI):=by
 intro pins s σ H Q I h
 refine wpAny_isTrue_Compare1 (Jj ha hb I (JG h (t:=fun v u H1=>∃O P x y r,(∀a,a∈P++O->∃o,H a=some o)/\aD H H1/\RE O P H H1 x v/\RE O P H H1 y u/\bd (g x y) bI=some r/\Ck E H1 Q r) fun O P x y r v u H1 h1 h2 h3 h4 h5 h6=>⟨O,P,x,y,r,h1,h2,h3,h4,h5,h6⟩)
  fun vv uu s2 v u H2 I2 rv ru ⟨O,P,x,y,r,h1,h2,h3,h4,h5,h6⟩=>bS (ho.test I2 h1 h2 h3 h4 rv ru h5 h6) fun d s3 ⟨z,H3,I3,r3,k,ez,q3⟩=>?_) hm
 subst ez
 cases r3
 exact wpAny_truthy_bool ⟨H3,I3,q3⟩
noncomputable def zD (g g':DV->DV->M DV) (fa fb fc:DS->M DV) (δ:DS):M DV:=bd (fa δ) fun x=>bd (fb δ) fun y=>bd (bd (g x y) bI) fun k=>if k=true then bd (fc δ) fun z=>g' y z else rt (.d (.bool false))
theorem t3 {g g':DV->DV->M DV} {σ:St} {H:Hp} {Q:VK} (h:tE E (zD g g' fa fb fc) σ H Q) {t:V->V->Hp->Prop}
  (k:∀O P δ x y r v u H1,RS O P H σ δ->RS O P H1 σ δ->aD H H1->RE O P H H1 x v->RE O P H H1 y u->(bd (bd (g x y) bI) fun k=>if k=true then bd (fc δ) fun z=>g' y z else rt (.d (.bool false)))=some r->Fn E O P H H1 Q r->t v u H1) :
  tE E fa σ H fun v H1=>tE E fb σ H1 fun u H2=>t v u H2:=by
 refine lE (g:=fun δ x=>bd (fb δ) fun y=>bd (bd (g x y) bI) fun k=>if k=true then bd (fc δ) fun z=>g' y z else rt (.d (.bool false))) h fun O P δ x r v H1 rs rs1 s1 rx e q=>?_
 rcases az e with ⟨y,e1,e2⟩|⟨c,e1,e2⟩
 ·exact ⟨O,P,δ,.ok y,rs1,e1,fun u H2 s2 ry=>k O P δ x y r v u H2 rs (rs1.same s2) (s1.trans s2) (rx.on s2) (ry.from s1) e2 (q.on s2)⟩
 ·subst e2
  exact ⟨O,P,δ,.error c,rs1,e1,q⟩
theorem vj {o o':CmpOp} {g g':DV->DV->M DV} (ho:gZ X E (compareOp o) g) (ho':gZ X E (compareOp o') g') (ha:PX X E a fa) (hb:PX X E b fb) (hc:PX X E c fc)
  (hm:lastMarks [o,o'] [b,c]=false:=by with_unfolding_all rfl):PX X E (.Compare a [o,o'] [b,c] pos) (zD g g' fa fb fc):=by
 intro pins s σ H Q I h
 refine Compare_chain (bS (ha pins s σ H _ I (t3 h (t:=fun v u H1=>∃O P δ x y r,RS O P H σ δ/\RS O P H1 σ δ/\aD H H1/\RE O P H H1 x v/\RE O P H H1 y u/\(bd (bd (g x y) bI) fun k=>if k=true then bd (fc δ) fun z=>g' y z else rt (.d (.bool false)))=some r/\Fn E O P H H1 Q r)
  fun O P δ x y r v u H1 h1 h2 h3 h4 h5 h6 h7=>⟨O,P,δ,x,y,r,h1,h2,h3,h4,h5,h6,h7⟩)) fun vv s1 ⟨v,H1,I1,r1,q1⟩=>chain_link (bS (hb pins s1 σ H1 _ I1 q1) fun uu s2 ⟨u,H2,I2,r2,q2⟩=>?_)) hm
 obtain ⟨O,P,δ,x,y,r,h1,h2,h3,h4,h5,h6,h7⟩:=q2
 rcases az h6 with ⟨k,e1,e2⟩|⟨cx,e1,e2⟩
 ·refine bS (ho.test (Q:=fun k' H3=>k'=k/\aD H2 H3) I2 h1.dom h3 h4 h5 r1 r2 e1 fun H3 s3=>⟨rfl,s3⟩) fun d s3 ⟨z,H3,I3,r3,k',ez,ek,s3'⟩=>?_
  subst ez ek
  cases r3
  refine wpAny_truthy_bool ?_
  cases k' with
  |false=>
   cases e2
   exact ite_ff ⟨.bl false,H3,I3,rfl,h7 _ H3 s3' (.bool false)⟩
  |true=>
   simp only [if_true] at e2
   refine ite_tt (chain_last (bS (hc pins s3 σ H3 (fun w' H4=>∃zz,RE O P H H4 zz w'/\aD H3 H4/\g' y zz=some r) I3 ?_) fun ww s4 ⟨w',H4,I4,r4,zz,q4,s4',e4⟩=>?_))
   ·rcases az e2 with ⟨zz,e3,e4⟩|⟨cc,e3,e4⟩
    ·exact ⟨O,P,δ,.ok zz,h2.same s3',e3,fun w' H4 s4 rz=>⟨zz,rz.from (h3.trans s3'),s4,e4⟩⟩
    ·subst e4
     exact ⟨O,P,δ,.error cc,h2.same s3',e3,h7.on s3'⟩
   ·exact ho' pins s4 σ O P H H4 y zz u w' uu ww r Q I4 h1.dom (h3.trans (s3'.trans s4')) (h5.on (s3'.trans s4')) q4 r2 r4 e4 (h7.on (s3'.trans s4'))
 ·subst e2
  exact bS (ho.test (Q:=fun _ _=>False) I2 h1.dom h3 h4 h5 r1 r2 e1 h7) fun d s3 ⟨z,H3,I3,r3,k',ez,q3⟩=>q3.elim
theorem oR {o o':CmpOp} {g g':DV->DV->M DV} (ho:gZ X E (compareOp o) g) (ho':gZ X E (compareOp o') g') (ha:PX X E a fa) (hb:PX X E b fb) (hc:PX X E c fc)
  (hm:lastMarks [o,o'] [b,c]=false:=by with_unfolding_all rfl):PB X E (.Compare a [o,o'] [b,c] pos) (fun δ=>bd (zD g g' fa fb fc δ) bI):=by
 intro pins s σ H Q I h
 have h':tE E (zD g g' fa fb fc) σ H (fun z H'=>∃k,z=.bl k/\Q k H'):=tj (g:=fun _=>bI) h fun O P δ x r v H1 rs rs1 s1 rx e' q'=>sM rx e' q'
 refine isTrue_chain (bS (ha pins s σ H _ I (t3 h' (t:=fun v u H1=>∃O P δ x y r,RS O P H σ δ/\RS O P H1 σ δ/\aD H H1/\RE O P H H1 x v/\RE O P H H1 y u/\(bd (bd (g x y) bI) fun k=>if k=true then bd (fc δ) fun z=>g' y z else rt (.d (.bool false)))=some r/\Fn E O P H H1 (fun z H'=>∃k,z=.bl k/\Q k H') r)
  fun O P δ x y r v u H1 h1 h2 h3 h4 h5 h6 h7=>⟨O,P,δ,x,y,r,h1,h2,h3,h4,h5,h6,h7⟩)) fun vv s1 ⟨v,H1,I1,r1,q1⟩=>test_link (bS (hb pins s1 σ H1 _ I1 q1) fun uu s2 ⟨u,H2,I2,r2,q2⟩=>?_)) hm
 obtain ⟨O,P,δ,x,y,r,h1,h2,h3,h4,h5,h6,h7⟩:=q2
 rcases az h6 with ⟨k,e1,e2⟩|⟨cx,e1,e2⟩
 ·refine bS (ho.test (Q:=fun k' H3=>k'=k/\aD H2 H3) I2 h1.dom h3 h4 h5 r1 r2 e1 fun H3 s3=>⟨rfl,s3⟩) fun d s3 ⟨z,H3,I3,r3,k',ez,ek,s3'⟩=>?_
  subst ez ek
  cases r3
  refine wpAny_truthy_bool ?_
  cases k' with
  |false=>
   cases e2
   obtain ⟨k2,ek2,q7⟩:=h7 _ H3 s3' (Rp.bool false)
   cases ek2
   exact ite_ff ⟨H3,I3,q7⟩
  |true=>
   simp only [if_true] at e2
   refine ite_tt (test_last (bS (hc pins s3 σ H3 (fun w' H4=>∃zz,RE O P H H4 zz w'/\aD H3 H4/\g' y zz=some r) I3 ?_) fun ww s4 ⟨w',H4,I4,r4,zz,q4,s4',e4⟩=>?_))
   ·rcases az e2 with ⟨zz,e3,e4⟩|⟨cc,e3,e4⟩
    ·exact ⟨O,P,δ,.ok zz,h2.same s3',e3,fun w' H4 s4 rz=>⟨zz,rz.from (h3.trans s3'),s4,e4⟩⟩
    ·subst e4
     exact ⟨O,P,δ,.error cc,h2.same s3',e3,h7.on s3'⟩
   ·refine bS (ho' pins s4 σ O P H H4 y zz u w' uu ww r _ I4 h1.dom (h3.trans (s3'.trans s4')) (h5.on (s3'.trans s4')) q4 r2 r4 e4 (h7.on (s3'.trans s4'))) fun d' s5 ⟨z2,H5,I5,r5,k2,ek2,q5⟩=>?_
    subst ek2
    cases r5
    exact wpAny_truthy_bool ⟨H5,I5,q5⟩
 ·subst e2
  exact bS (ho.test (Q:=fun _ _=>False) I2 h1.dom h3 h4 h5 r1 r2 e1 h7) fun d s3 ⟨z,H3,I3,r3,k',ez,q3⟩=>q3.elim
noncomputable def zh (X:Cx) (E:XK) (e:Expr) (f:DS->M Bool):Prop:=PW X e (BC E f)
theorem zh.pb (h:zh X E e ga):PB X E e ga:=PW.pt h
noncomputable def jo (ga gb:DS->M Bool) (δ:DS):M Bool:=bd (ga δ) fun k=>if k=true then gb δ else rt false
noncomputable def DF (ga gb:DS->M Bool) (δ:DS):M Bool:=bd (ga δ) fun k=>if k=true then rt true else gb δ
noncomputable def gP (ga:DS->M Bool) (δ:DS):M Bool:=bd (ga δ) fun k=>rt (!k)
theorem PW.mono {t t':TT} (h:PW X e t) (m:∀σ H Q,t' σ H Q->t σ H Q):PW X e t':=fun wh pins s σ H Q I q=>h wh pins s σ H Q I (m σ H Q q)
variable {eL:List Expr}
theorem sF (h:PB X E a ga):zh X E (.BoolOp .And [a] pos) ga:=CY h
theorem AL (h:PB X E a ga):zh X E (.BoolOp .Or [a] pos) ga:=Fp h
theorem vV (ha:PB X E a ga) (hb:zh X E (.BoolOp .And (b::eL) pos) gb):zh X E (.BoolOp .And (a::b::eL) pos) (jo ga gb):=
 PW.mono (Fs ha hb) fun σ H Q q=>wB (g:=fun δ k=>if k=true then gb δ else rt false) q fun O P δ k r H1 rs rs1 s1 e q=>by
  cases k with
  |true=>exact ⟨O,P,δ,r,rs1,e,q⟩
  |false=>cases e; exact q H1 (aD.refl H1)
theorem EY (ha:PB X E a ga) (hb:zh X E (.BoolOp .Or (b::eL) pos) gb):zh X E (.BoolOp .Or (a::b::eL) pos) (DF ga gb):=
 PW.mono (Hm ha hb) fun σ H Q q=>wB (g:=fun δ k=>if k=true then rt true else gb δ) q fun O P δ k r H1 rs rs1 s1 e q=>by
  cases k with
  |false=>exact ⟨O,P,δ,r,rs1,e,q⟩
  |true=>cases e; exact q H1 (aD.refl H1)
theorem ic (ha:PB X E a ga):PB X E (.UnaryOp .Not a pos) (gP ga):=
 PT.mono (Fi ha) fun σ H Q q=>wB (g:=fun δ k=>rt (!k)) q fun O P δ k r H1 rs rs1 s1 e q=>by
  cases e; exact q H1 (aD.refl H1)
noncomputable def nP (fa fb:DS->M DV) (δ:DS):M DV:=bd (bd (fa δ) bI) fun k=>if k=true then fb δ else rt (.d (.bool false))
noncomputable def F7 (fa fb:DS->M DV) (δ:DS):M DV:=bd (bd (fa δ) bI) fun k=>if k=true then rt (.d (.bool true)) else fb δ
noncomputable def wV (fa:DS->M DV) (δ:DS):M DV:=bd (bd (fa δ) bI) fun k=>rt (.d (.bool (!k)))
theorem t1 {g:DS->Bool->M DV} {σ:St} {H:Hp} {Q:VK} (h:tE E (fun δ=>bd (bd (fa δ) bI) (g δ)) σ H Q) {t:VK}
  (k:∀O P δ k r H1,RS O P H1 σ δ->aD H H1->g δ k=some r->Fn E O P H H1 Q r->t (.bl k) H1):tE E fa σ H t:=by
 obtain ⟨O,P,δ,r,rs,e,q⟩:=h
 rcases az e with ⟨z,e1,e2⟩|⟨c,e1,e2⟩
 ·rcases az e1 with ⟨x,e3,e4⟩|⟨c,e3,e4⟩
  ·refine ⟨O,P,δ,.ok x,rs,e3,fun v H1 s1 rx=>?_⟩
   obtain ⟨kk,rfl,ek⟩:=mG e4
   cases ek
   cases rx
   exact k O P δ _ r H1 (rs.same s1) s1 e2 (q.on s1)
  ·cases e4
 ·subst e2
  rcases az e1 with ⟨x,e3,e4⟩|⟨c',e3,e4⟩
  ·obtain ⟨kk,_,ek⟩:=mG e4
   cases ek
  ·cases e4
   exact ⟨O,P,δ,.error c,rs,e3,q⟩
theorem oW {o:BoolOp} (h:PX X E a fa):PX X E (.BoolOp o [a] pos) fa:=FE h
theorem yt {O P:List Addr} {H H1:Hp} {Q:VK} {r:Except Value DV} (s1:aD H H1) (q:Fn E O P H H1 Q r):Fn E O P H1 H1 Q r:=by
 cases r with
 |ok x=>exact fun v H' s' rx=>q v H' s' (rx.from s1)
 |error c=>exact q
theorem pZ (ha:PX X E a fa) (hb:PX X E (.BoolOp .And (b::eL) pos) fb):PX X E (.BoolOp .And (a::b::eL) pos) (nP fa fb):=
 PE.mono (Gk ha hb) fun σ H Q q=>t1 (g:=fun δ k=>if k=true then fb δ else rt (.d (.bool false))) q fun O P δ k r H1 rs1 s1 e q=>by
  refine ⟨k,rfl,?_⟩
  cases k with
  |true=>exact vb ⟨O,P,δ,r,rs1,e,yt s1 q⟩
  |false=>cases e; exact uM (q _ H1 (aD.refl H1) (.bool false))
theorem HL (ha:PX X E a fa) (hb:PX X E (.BoolOp .Or (b::eL) pos) fb):PX X E (.BoolOp .Or (a::b::eL) pos) (F7 fa fb):=
 PE.mono (Im ha hb) fun σ H Q q=>t1 (g:=fun δ k=>if k=true then rt (.d (.bool true)) else fb δ) q fun O P δ k r H1 rs1 s1 e q=>by
  refine ⟨k,rfl,?_⟩
  cases k with
  |false=>exact uM ⟨O,P,δ,r,rs1,e,yt s1 q⟩
  |true=>cases e; exact vb (q _ H1 (aD.refl H1) (.bool true))
theorem GY (ha:PX X E a fa):PX X E (.UnaryOp .Not a pos) (wV fa):=
 PE.mono (Fz ha) fun σ H Q q=>t1 (g:=fun δ k=>rt (.d (.bool (!k)))) q fun O P δ k r H1 rs1 s1 e q=>by
  cases e
  exact ⟨k,rfl,q _ H1 (aD.refl H1) (.bool (!k))⟩
end
section
variable {X:Cx} {E:XK} {a b c e o:Expr} {es:List Expr} {pos p:Pos} {fa fb fc f:DS->M DV} {fr:DS->M (List DV)}
theorem lA.from {O P:List Addr} {H H1 H2:Hp} {xs:List DV} {vs:List V} (r:lA O P H1 H2 xs vs) (h:aD H H1):lA O P H H2 xs vs:=Paired.mapP r fun _ _ q=>RE.from q h
noncomputable def aj (_:DS):M (List DV):=rt []
noncomputable def aa (fa:DS->M DV) (fr:DS->M (List DV)) (δ:DS):M (List DV):=bd (fa δ) fun x=>bd (fr δ) fun xs=>rt (x::xs)
theorem ai:uS X E [] aj:=PA.mono kR fun σ H Q q=>by
 obtain ⟨O,P,δ,r,rs,e,q⟩:=q
 cases e
 exact q [] H (aD.refl H) .nil
theorem ae (ha:PX X E e fa) (hr:uS X E es fr) (hs:starEach (e::es) X.env=(false,eval e X.env)::starEach es X.env:=by rfl):uS X E (e::es) (aa fa fr):=PA.mono (j8 ha hr hs) fun σ H Q q=>by
 obtain ⟨O,P,δ,r,rs,e,q⟩:=q
 rcases az e with ⟨x,e1,e2⟩|⟨c,e1,e2⟩
 ·refine ⟨O,P,δ,.ok x,rs,e1,fun v H1 s1 rx=>?_⟩
  rcases az e2 with ⟨xs,e3,e4⟩|⟨c,e3,e4⟩
  ·cases e4
   exact ⟨O,P,δ,.ok xs,rs.same s1,e3,fun vs H2 s2 rxs=>q _ H2 (s1.trans s2) (.cons (rx.on s2) (rxs.from s1))⟩
  ·subst e4
   exact ⟨O,P,δ,.error c,rs.same s1,e3,fun dx H' s'=>q dx H' (s1.trans s')⟩
 ·subst e2
  exact ⟨O,P,δ,.error c,rs,e1,q⟩
noncomputable def dX:List DV->Option (List D)
 |[]=>some []
 |x::r=>match vx x,dX r with
  |some d,some ds=>some (d::ds)
  |_,_=>none
@[simp] theorem mr:dX []=some []:=rfl
theorem kK (x:DV) (r:List DV):dX (x::r)=match vx x,dX r with|some d,some ds=>some (d::ds)|_,_=>none:=rfl
@[simp] theorem sA (x:D) (r:List DV):dX (.d x::r)=(dX r).map (x::·):=by
 rw [kK,xf]
 cases dX r <;> rfl
@[simp] theorem mn (xs:List D) (r:List DV):dX (.new xs::r)=(dX r).map (.list xs::·):=by
 rw [kK,ow]
 cases dX r <;> rfl
theorem lA.data {O P:List Addr} {H H':Hp} (dom:∀a,a∈P++O->∃o,H a=some o):∀{xs:List DV} {vs:List V} {ds:List D},lA O P H H' xs vs->dX xs=some ds->RpL (P++O) H' ds vs
 |_,_,_,.nil,h=>by cases h; exact .nil
 |_,_,_,.cons r t,h=>by
  rw [kK] at h
  split at h
  ·rename_i d ds h1 h2
   cases h
   exact .cons (r.data dom h1) (lA.data dom t h2)
  ·cases h
noncomputable def bf (fr:DS->M (List DV)) (δ:DS):M DV:=bd (fr δ) fun xs=>bd (op (dX xs)) fun ds=>if ds.length<=1000000 then rt (.d (.tuple ds)) else none
noncomputable def cC (fr:DS->M (List DV)) (δ:DS):M DV:=bd (fr δ) fun xs=>bd (op (dX xs)) fun ds=>if ds.length<=1000000 then rt (.new ds) else none
theorem lK {g:DS->List DV->M DV} {σ:St} {H:Hp} {Q:VK} {t:List V->Hp->Prop} (h:tE E (fun δ=>bd (fr δ) (g δ)) σ H Q)
  (k:∀O P δ xs r vs H1,RS O P H σ δ->RS O P H1 σ δ->aD H H1->lA O P H H1 xs vs->g δ xs=some r->Fn E O P H H1 Q r->t vs H1):Jh E fr σ H t:=by
 obtain ⟨O,P,δ,r,rs,e,q⟩:=h
 rcases az e with ⟨x,e1,e2⟩|⟨c,e1,e2⟩
 ·exact ⟨O,P,δ,.ok x,rs,e1,fun v H1 s1 re=>k O P δ x r v H1 rs (rs.same s1) s1 re e2 (q.on s1)⟩
 ·subst e2
  exact ⟨O,P,δ,.error c,rs,e1,q⟩
theorem rH {xs:List DV} {h:List D->M DV} {r:Except Value DV} (e:bd (op (dX xs)) h=some r):∃ds,dX xs=some ds/\h ds=some r:=by
 cases hd:dX xs with
 |none=>rw [hd] at e; cases e
 |some ds=>rw [hd] at e; exact ⟨ds,rfl,e⟩
theorem cX {k:Nat} (h:uS X E es fr):PX X E (.Tuple es k pos) (bf fr):=PE.mono (vQ h) fun σ H Q q=>lK (g:=fun _ xs=>bd (op (dX xs)) fun ds=>if ds.length<=1000000 then rt (.d (.tuple ds)) else none) q fun O P δ xs r vs H1 rs rs1 s1 rx e q=>by
 obtain ⟨ds,hd,e⟩:=rH e
 split at e
 ·rename_i hz
  cases e
  have l:=lA.data rs.dom rx hd
  exact ⟨eW (by rw [<-l.length]; exact hz),fun p hp=>q _ _ (a9 hp) (BZ rs.dom s1 hp l)⟩
 ·cases e
theorem cG (h:uS X E es fr):PX X E (.List es pos) (cC fr):=PE.mono (AA h) fun σ H Q q=>lK (g:=fun _ xs=>bd (op (dX xs)) fun ds=>if ds.length<=1000000 then rt (.new ds) else none) q fun O P δ xs r vs H1 rs rs1 s1 rx e q=>by
 obtain ⟨ds,hd,e⟩:=rH e
 split at e
 ·rename_i hz
  cases e
  have l:=lA.data rs.dom rx hd
  exact ⟨eW (by rw [<-l.length]; exact hz),fun p hp=>q _ _ (a9 hp) (RE.made s1 hp l)⟩
 ·cases e
noncomputable def bN (x y:DV):M DV:=match x,y with
 |.d (.tuple xs),.d (.int i)=>bd (op (atI xs i)) fun z=>rt (.d z)
 |.d (.list xs),.d (.int i)=>bd (op (atI xs i)) fun z=>rt (.d z)
 |.own xs,.d (.int i)=>bd (op (atI xs i)) fun z=>rt (.d z)
 |.new xs,.d (.int i)=>bd (op (atI xs i)) fun z=>rt (.d z)
 |_,_=>none
theorem RpL.atI {Z:List Addr} {H:Hp} {ds:List D} {vs:List V} {i:Int} {d:D} (l:RpL Z H ds vs) (h:L2.atI ds i=some d):∃v,L2.atI vs i=some v/\Rp Z H d v:=by
 unfold L2.atI at h ⊢
 rw [<-l.length]
 cases e:Ci ds.length i with
 |none=>rw [e] at h; cases h
 |some j=>
  rw [e] at h
  obtain ⟨v,e1,r⟩:=l.get (i:=j) h
  exact ⟨v,e1,r⟩
theorem xk {α β:Type} (g:α->β) (xs:List α) (i:Int):atI (xs.map g) i=(atI xs i).map g:=by
 unfold atI
 rw [List.length_map]
 cases Ci xs.length i with
 |none=>rfl
 |some j=>simp
theorem bt {α β:Type} {o:Option α} {g:α->M β} {r:Except Value β} (h:bd (op o) g=some r):∃x,o=some x/\g x=some r:=by
 cases o with
 |none=>cases h
 |some x=>exact ⟨x,rfl,h⟩
theorem bD (ha:PX X E a fa) (hb:PX X E b fb) (hs:j5 b:=by intro _ _; rfl):PX X E (.Subscript a b pos) (e2 bN fa fb):=PE.mono (EH BH ha hb hs) fun σ H Q q=>t2 q fun O P x y r v u H1 dom s1 rx ry e q=>by
 unfold bN at e
 split at e
 ·obtain ⟨z,e1,e2⟩:=bt e
  cases e2
  cases ry
  have rx':Rp (P++O) H1 _ v:=rx
  cases rx' with
  |tup hz ha l=>
   obtain ⟨w,e3,rw3⟩:=l.atI e1
   exact .inr (.inl ⟨_,_,_,w,rfl,rfl,ka.of ha,e3,q w H1 (aD.refl H1) rw3⟩)
 ·obtain ⟨z,e1,e2⟩:=bt e
  cases e2
  cases ry
  have rx':Rp (P++O) H1 _ v:=rx
  cases rx' with
  |lst hz ha l=>
   obtain ⟨w,e3,rw3⟩:=l.atI e1
   exact .inl ⟨_,_,_,w,rfl,rfl,gg.of ha,e3,q w H1 (aD.refl H1) rw3⟩
 ·obtain ⟨z,e1,e2⟩:=bt e
  cases e2
  cases ry
  obtain ⟨a,vs,rfl,hP,ha,l⟩:=rx
  obtain ⟨w,e3,rw3⟩:=l.atI e1
  exact .inl ⟨_,_,_,w,rfl,rfl,gg.of ha,e3,q w H1 (aD.refl H1) rw3⟩
 ·obtain ⟨z,e1,e2⟩:=bt e
  cases e2
  cases ry
  obtain ⟨a,vs,rfl,hn,ha,l⟩:=rx
  obtain ⟨w,e3,rw3⟩:=l.atI e1
  exact .inl ⟨_,_,_,w,rfl,rfl,gg.of ha,e3,q w H1 (aD.refl H1) (rw3.kp (.sub fun b hb=>JY _ hb))⟩
 ·cases e
open Classical in
noncomputable def Ac (K:Kd) (x y:DV):M DV:=match x,y with
 |.scr K' ns,.d (.int i)=>if K'=K then bd (op (atI ns i)) fun n=>rt (.d (.int n)) else none
 |_,_=>none
theorem RE.scrSq {O P:List Addr} {H₀ H:Hp} {K:Kd} {ns:List Int} {v:V} (r:RE O P H₀ H (.scr K ns) v):∃a,v=.ref a/\gg K H a (ns.map V.int):=by
 obtain ⟨a,ev,hz⟩:=r
 exact ⟨a,ev,hz.imp (fun z=>z.2) fun z=>z⟩
theorem Fo (ha:PX X E a fa) (hb:PX X E b fb) (hs:j5 b:=by intro _ _; rfl):PX X E (.Subscript a b pos) (e2 (Ac X.K) fa fb):=PE.mono (EH BH ha hb hs) fun σ H Q q=>t2 q fun O P x y r v u H1 dom s1 rx ry e q=>by
 unfold Ac at e
 split at e
 ·split at e
  ·rename_i hK
   subst hK
   obtain ⟨z,e1,e2⟩:=bt e
   cases e2
   cases ry
   obtain ⟨a,rfl,ha⟩:=rx.scrSq
   exact .inl ⟨_,_,_,.int z,rfl,rfl,ha,by rw [xk,e1]; rfl,q _ H1 (aD.refl H1) (.int z)⟩
  ·cases e
 ·cases e
noncomputable def lU (xs:List D) (lo hi:Option Int):List D:=(xs.drop (HT.sIx xs.length 0 lo)).take (HT.sIx xs.length xs.length hi-HT.sIx xs.length 0 lo)
theorem RpL.cut {Z:List Addr} {H:Hp} {ds:List D} {vs:List V} (l:RpL Z H ds vs) (lo hi:Option Int):RpL Z H (lU ds lo hi) (zx vs lo hi):=by
 unfold lU zx
 rw [l.length]
 exact (l.drop _).take _
noncomputable def Au (x:DV) (lo hi:Option Int):M DV:=bd (op (mj x)) fun xs=>rt (.new (lU xs lo hi))
noncomputable def Fb:DV->M Int
 |.d (.int i)=>rt i
 |_=>none
theorem rE {x:DV} {r:Except Value Int} (h:Fb x=some r):∃i,x=.d (.int i)/\r=.ok i:=by
 unfold Fb at h
 split at h
 ·rename_i i
  cases h; exact ⟨i,rfl,rfl⟩
 ·cases h
noncomputable def uX (fa fl:DS->M DV) (δ:DS):M DV:=bd (fa δ) fun x=>bd (fl δ) fun l=>bd (Fb l) fun i=>Au x (some i) none
noncomputable def uy (fa fh:DS->M DV) (δ:DS):M DV:=bd (fa δ) fun x=>bd (fh δ) fun h=>bd (Fb h) fun j=>Au x none (some j)
theorem xV {O P:List Addr} {H₀ H1 H2:Hp} {x:DV} {v:V} {lo hi:Option Int} {r:Except Value DV} {Q:VK} {K:Kd} (s12:aD H1 H2) (hs:aD H₀ H2) (rx:RE O P H₀ H1 x v) (e:Au x lo hi=some r) (q:Fn E O P H₀ H2 Q r):G8 K v lo hi H2 Q:=by
 obtain ⟨xs,e1,e2⟩:=bt e
 cases e2
 obtain ⟨a,vs,rfl,ha,l⟩:=(rx.on s12).list e1
 exact ⟨a,vs,rfl,gg.of ha,fun p hp=>q _ _ (a9 hp) (RE.made hs hp (l.cut lo hi))⟩
theorem xX {x:DV} {v:V} {O P:List Addr} {H₀ H:Hp} {h:Int->M DV} {r:Except Value DV} (rx:RE O P H₀ H x v) (e:bd (Fb x) h=some r):∃i,v=.int i/\h i=some r:=by
 rcases az e with ⟨i,e1,e2⟩|⟨c,e1,e2⟩
 ·obtain ⟨j,rfl,ej⟩:=rE e1
  cases ej
  cases rx
  exact ⟨_,rfl,e2⟩
 ·obtain ⟨j,_,ej⟩:=rE e1
  cases ej
theorem xB {p2:Pos} (ha:PX X E a fa) (hb:PX X E b fb):PX X E (.Subscript a (.Slice (some b) none none p2) pos) (uX fa fb):=PE.mono (uK xA ha (xt hb) xl) fun σ H Q q=>
 lE (g:=fun δ x=>bd (fb δ) fun l=>bd (Fb l) fun i=>Au x (some i) none) q fun O P δ x r v H1 rs rs1 s1 rx e q=>by
  rcases az e with ⟨l,e1,e2⟩|⟨c,e1,e2⟩
  ·refine ⟨O,P,δ,.ok l,rs1,e1,fun u H2 s2 rl=>?_⟩
   obtain ⟨i,rfl,e3⟩:=xX rl e2
   exact ⟨i,rfl,xV s2 (s1.trans s2) rx e3 (q.on s2)⟩
  ·subst e2
   exact ⟨O,P,δ,.error c,rs1,e1,q⟩
theorem xT {p2:Pos} (ha:PX X E a fa) (hb:PX X E b fb):PX X E (.Subscript a (.Slice none (some b) none p2) pos) (uy fa fb):=PE.mono (uK xA ha xl (xt hb)) fun σ H Q q=>
 lE (g:=fun δ x=>bd (fb δ) fun l=>bd (Fb l) fun i=>Au x none (some i)) q fun O P δ x r v H1 rs rs1 s1 rx e q=>by
  rcases az e with ⟨l,e1,e2⟩|⟨c,e1,e2⟩
  ·refine ⟨O,P,δ,.ok l,rs1,e1,fun u H2 s2 rl=>?_⟩
   obtain ⟨i,rfl,e3⟩:=xX rl e2
   exact ⟨i,rfl,xV s2 (s1.trans s2) rx e3 (q.on s2)⟩
  ·subst e2
   exact ⟨O,P,δ,.error c,rs1,e1,q⟩
noncomputable def Af (C:Addr) (n:Str) (x:DV):M DV:=match x with
 |.ob C' fs=>if C'=C then bd (op (fs.lookup n)) fun d=>rt (.d d) else none
 |_=>none
noncomputable def ft (C:Addr) (n:Str) (fa:DS->M DV) (δ:DS):M DV:=bd (fa δ) (Af C n)
theorem EM.look {Z:List Addr} {H:Hp} {n:Str} {d:D}:∀{fs:List (Str×D)} {gs:List (Str×V)},EM Z H fs gs->fs.lookup n=some d->∃v,gs.lookup n=some v/\Rp Z H d v
 |_,_,.nil,h=>by simp at h
 |(k,x)::fs,(k',y)::gs,.cons ⟨ek,r⟩ t,h=>by
  have ek':k=k':=ek
  subst ek'
  by_cases hn:n=k
  ·subst hn
   simp only [List.lookup_cons,beq_self_eq_true] at h ⊢
   cases h
   exact ⟨_,rfl,r⟩
  ·have hb:(n==k)=false:=by simpa using hn
   simp only [List.lookup_cons,hb] at h ⊢
   exact EM.look t h
theorem jb {C:Addr} {n:Str} (ha:PX X E a fa) (hc:Cls X.K C) (hn:dU X.K C n) (hb:attributeBase a n X.env (eval a X.env)=eval a X.env:=by rfl):PX X E (.Attribute a n pos) (ft C n fa):=PE.mono (xb ha hb) fun σ H Q q=>
 lE (g:=fun _=>Af C n) q fun O P δ x r v H1 rs rs1 s1 rx e q=>by
  unfold Af at e
  split at e
  ·split at e
   ·rename_i hC
    subst hC
    obtain ⟨d,e1,e2⟩:=bt e
    cases e2
    obtain ⟨a,dx,gs,rfl,hz,ha,hf⟩:=rx
    obtain ⟨w,e3,rw3⟩:=EM.look hf e1
    exact ⟨a,_,dx,gs,w,rfl,ha,hc,hn,e3,q w H1 (aD.refl H1) rw3⟩
   ·cases e
  ·cases e
noncomputable def dS (X:Cx) (E:XK) (f:Value) (g:List DV->M DV):Prop:=
 ∀(pins:List (Addr×Obj)) (s:Shared) (σ:St) (O P:List Addr) (H₀ H:Hp) (xs:List DV) (vs:List V) (us:List Value) (r:Except Value DV) (Q:VK),Inv X pins σ H s->(∀a,a∈P++O->∃o,H₀ a=some o)->aD H₀ H ->
  lA O P H₀ H xs vs->aQ vs us->g xs=some r->Fn E O P H₀ H Q r->wpAny (model X.prog X.w) X.A (call f us) (EP X pins σ Q) X.xe s
noncomputable def BW (E:XK) (g:List DV->M DV) (vs:List V) (H:Hp) (Q:VK):Prop:=∃O P H₀ xs r,(∀a,a∈P++O->∃o,H₀ a=some o)/\aD H₀ H/\lA O P H₀ H xs vs/\g xs=some r/\Fn E O P H₀ H Q r
theorem dS.rule {f:Value} {g:List DV->M DV} (h:dS X E f g):l7 X f (BW E g):=fun pins s σ H vs us Q I rv ⟨O,P,H₀,xs,r,h1,h2,h3,h4,h5⟩=>h pins s σ O P H₀ H xs vs us r Q I h1 h2 h3 rv h4 h5
theorem dS.of {f:Value} {g:List DV->M DV} {R:List V->Hp->VK->Prop} (hc:l7 X f R)
  (h:∀(O P:List Addr) (H₀ H:Hp) (xs:List DV) (vs:List V) (r:Except Value DV) (Q:VK),(∀a,a∈P++O->∃o,H₀ a=some o)->aD H₀ H->lA O P H₀ H xs vs->g xs=some r->Fn E O P H₀ H Q r->R vs H Q):dS X E f g:=
 fun pins s σ O P H₀ H xs vs us r Q I h1 h2 h3 rv h4 h5=>hc pins s σ H vs us Q I rv (h O P H₀ H xs vs r Q h1 h2 h3 h4 h5)
noncomputable def aL (g:List DV->M DV) (fr:DS->M (List DV)) (δ:DS):M DV:=bd (fr δ) g
theorem Aj {g:List DV->M DV} {σ:St} {H:Hp} {Q:VK} (q:tE E (aL g fr) σ H Q):Jh E fr σ H fun vs H1=>BW E g vs H1 Q:=
 lK (g:=fun _=>g) q fun O P δ xs r vs H1 rs rs1 s1 rx e q=>⟨O,P,H,xs,r,rs.dom,s1,rx,e,q⟩
theorem aV {x:Str} {id:String} {g:List DV->M DV} (hc:dS X E (.builtin id) g) (hg:Gl X x) (hm:X.mg x=none) (hv:bootBuiltins x=some (.builtin id)) (ha:uS X E (e::es) fr) (hn:x ≠ "__name__" :=by decide) (hdb:(x==("__debug__" : Str))=false:=by decide)
  (he:starEach (e::es) X.env=(false,eval e X.env)::starEach es X.env:=by rfl) (hpl:(backTo pos (starEach es X.env)).any (·.1)=false:=by rfl):PX X E (.Call (.Name x p) (e::es) [] pos) (aL g fr):=
 PE.mono (B4 hc.rule hg hm hv ha hn hdb he hpl) fun σ H Q q=>Aj q
theorem mU {x:Str} {T:String} {g:List DV->M DV} (hc:dS X E (.type T) g) (hg:Gl X x) (hm:X.mg x=none) (hv:bootBuiltins x=some (.type T)) (ha:uS X E (e::es) fr) (hn:x ≠ "__name__" :=by decide) (hdb:(x==("__debug__" : Str))=false:=by decide)
  (he:starEach (e::es) X.env=(false,eval e X.env)::starEach es X.env:=by rfl) (hpl:(backTo pos (starEach es X.env)).any (·.1)=false:=by rfl):PX X E (.Call (.Name x p) (e::es) [] pos) (aL g fr):=
 PE.mono (yR hc.rule hg hm hv ha hn hdb he hpl) fun σ H Q q=>Aj q
end
noncomputable def Sub (δ δ':DS):Prop:=δ.length=δ'.length/\∀(i:Nat) (x:DV),δ[i]?=some (some x)->δ'[i]?=some (some x)
theorem DZ {δ:DS} {i:Nat} {y:Option DV} (h:δ[i]?=some none\/δ[i]?=none):Sub δ (δ.set i y):=⟨0x4,fun j x e=>by
 by_cases hj:i=j
 ·subst hj
  rcases h with h|h <;> (rw [h] at e; cases e)
 ·rw [List.getElem?_set_ne hj]; exact e⟩
section
variable {O P:List Addr} {H:Hp} {σ:St} {δ δ':DS}
theorem RS.forget (r:RS O P H σ δ') (h:Sub δ δ'):RS O P H σ δ:=
 ⟨r.len.trans h.1.symm,r.dom,r.apart,fun i x e=>r.at' i x (h.2 i x e),fun i j x y v w a e1 e2=>r.one i j x y v w a (h.2 i _ e1) (h.2 j _ e2)⟩
theorem RS.set (r:RS O P H σ δ) {i:Nat} {x:DV} {v:V} (rx:RE O P H H x v) (h1:∀xs,x≠.new xs) (h2:Cy x=false):RS O P H (σ.set i (some v)) (δ.set i (some x)):=by
 refine ⟨by simp [r.len],r.dom,r.apart,fun j y e=>?_,fun j k y z v1 v2 c e1 e2 e3 e4 o1 o2=>?_⟩
 ·by_cases hj:i=j
  ·subst hj
   by_cases hi:i<δ.length
   ·rw [List.getElem?_set_self hi] at e
    cases e
    exact ⟨v,by rw [List.getElem?_set_self (by rw [r.len]; exact hi)],h1,rx⟩
   ·rw [List.getElem?_eq_none (by simpa using hi)] at e; cases e
  ·rw [List.getElem?_set_ne hj] at e
   obtain ⟨w,e1,e2,e3⟩:=r.at' j y e
   exact ⟨w,by rw [List.getElem?_set_ne hj]; exact e1,e2,e3⟩
 ·have nj:∀(j:Nat) (y:DV),(δ.set i (some x))[j]?=some (some y)->Cy y=true->i≠j/\δ[j]?=some (some y):=fun j y e ho=>by
   by_cases hj:i=j
   ·subst hj
    by_cases hi:i<δ.length
    ·rw [List.getElem?_set_self hi] at e
     cases e
     rw [h2] at ho; cases ho
    ·rw [List.getElem?_eq_none (by simpa using hi)] at e; cases e
   ·exact ⟨hj,by rw [List.getElem?_set_ne hj] at e; exact e⟩
  obtain ⟨n1,d1⟩:=nj j y e1 o1.q
  obtain ⟨n2,d2⟩:=nj k z e2 o2.q
  rw [List.getElem?_set_ne n1] at e3
  rw [List.getElem?_set_ne n2] at e4
  exact r.one j k y z v1 v2 c d1 d2 e3 e4 o1 o2
theorem RS.ownG {H0:Hp} (r:RS O P H0 σ δ) (hs:aD H0 H) {i:Nat} {x:DV} {v:V} {a:Addr} {u:HO} (hn:H0 a=none) (ha:H a=some u) (hx:∀xs,x≠.new xs) (rx:RE O (a::P) H H x v) (hx1:∀b,qA H x v b->b=a):RS O (a::P) H (σ.set i (some v)) (δ.set i (some x)):=by
 have fz:a∉P++O:=fun h=>by
  obtain ⟨o,e⟩:=r.dom a h
  rw [hn] at e; cases e
 have k:Kp (P++O) H0 (a::P++O) H:=⟨fun b o _ e=>hs b o e,fun b hb=>by
  rcases List.mem_cons.mp hb with e|e
  ·exact .inr (e▸hn)
  ·exact .inl e⟩
 refine ⟨by simp [r.len],fun b hb=>?_,fun b hb hO=>?_,fun j y e=>?_,fun j m y z v1 v2 c e1 e2 e3 e4 o1 o2=>?_⟩
 ·rcases List.mem_cons.mp hb with e|e
  ·exact ⟨_,e▸ha⟩
  ·obtain ⟨o,q⟩:=r.dom b e
   exact ⟨o,hs b o q⟩
 ·rcases List.mem_cons.mp hb with e|e
  ·exact fz (J2 _ (e▸hO))
  ·exact r.apart b e hO
 ·by_cases hj:i=j
  ·subst hj
   by_cases hi:i<δ.length
   ·rw [List.getElem?_set_self hi] at e
    cases e
    exact ⟨v,by rw [List.getElem?_set_self (by rw [r.len]; exact hi)],hx,rx⟩
   ·rw [List.getElem?_eq_none (by simpa using hi)] at e; cases e
  ·rw [List.getElem?_set_ne hj] at e
   obtain ⟨w,e1,e2,e3⟩:=r.at' j y e
   refine ⟨w,by rw [List.getElem?_set_ne hj]; exact e1,e2,?_⟩
   cases y with
   |d y=>exact Rp.kp k e3
   |ob C fs=>exact Co.kp k e3
   |fz kvs=>exact xZ.kp k e3
   |ex q=>exact e3
   |tpo p xs q=>exact GQ.kp k (fun b u hp hb=>⟨JY _ hp,hs b u hb⟩) e3
   |nwt p xs q=>exact (Bt.no e3).elim
   |own ys=>
    obtain ⟨b,us,eb,hP,hb,hl⟩:=e3
    exact ⟨b,us,eb,JY _ hP,hs b _ hb,hl.kp k⟩
   |new ys=>exact absurd rfl (e2 ys)
   |scr K ns=>
    obtain ⟨b,eb,⟨hz,hb⟩|hk⟩:=e3
    ·refine ⟨b,eb,.inl ⟨fun h=>?_,aD.rd hs hb⟩⟩
     rcases List.mem_cons.mp h with z|z
     ·rcases hb with hb|⟨ob,hb⟩ <;> (rw [z,hn] at hb; cases hb)
     ·exact hz z
    ·exact ⟨b,eb,.inr hk⟩
 ·
  have old:∀(j:Nat) (y:DV) (w:V),δ[j]?=some (some y)->σ[j]?=some (some w)->qA H y w c->qA H0 y w c/\c∈P:=fun j y w e q o=>by
   obtain ⟨w',e1,_,r1⟩:=r.at' j _ e
   rw [q] at e1
   cases e1
   have:=o.old (fun b o _ q=>hs b o q) r1
   exact ⟨this,this.new r1⟩
  by_cases hj:i=j
  ·by_cases hm:i=m
   ·exact hj.symm.trans hm
   ·subst hj
    by_cases hi:i<δ.length
    ·rw [List.getElem?_set_self hi] at e1
     cases e1
     rw [List.getElem?_set_self (by rw [r.len]; exact hi)] at e3
     cases e3
     rw [List.getElem?_set_ne hm] at e2 e4
     have hc:=hx1 c o1
     exact absurd (J3 _ (hc▸(old m z v2 e2 e4 o2).2)) fz
    ·rw [List.getElem?_eq_none (by simpa using hi)] at e1; cases e1
  ·by_cases hm:i=m
   ·subst hm
    by_cases hi:i<δ.length
    ·rw [List.getElem?_set_self hi] at e2
     cases e2
     rw [List.getElem?_set_self (by rw [r.len]; exact hi)] at e4
     cases e4
     rw [List.getElem?_set_ne hj] at e1 e3
     have hc:=hx1 c o2
     exact absurd (J3 _ (hc▸(old j y v1 e1 e3 o1).2)) fz
    ·rw [List.getElem?_eq_none (by simpa using hi)] at e2; cases e2
   ·rw [List.getElem?_set_ne hj] at e1 e3
    rw [List.getElem?_set_ne hm] at e2 e4
    exact r.one j m y z v1 v2 c e1 e2 e3 e4 (old j y v1 e1 e3 o1).1 (old m z v2 e2 e4 o2).1
theorem RS.own {H0:Hp} (r:RS O P H0 σ δ) (hs:aD H0 H) {i:Nat} {xs:List D} {v:V} (rx:RE O P H0 H (.new xs) v):∃a,H0 a=none/\RS O (a::P) H (σ.set i (some v)) (δ.set i (some (.own xs))):=by
 obtain ⟨a,vs,rfl,hn,ha,l⟩:=rx
 exact ⟨a,hn,r.ownG hs hn ha (fun _=>nofun) ⟨a,vs,rfl,JZ,ha,l⟩ fun b h=>by
  have h':V.ref a=.ref b:=h
  cases h'; rfl⟩
theorem RS.ownT {H0:Hp} (r:RS O P H0 σ δ) (hs:aD H0 H) {i:Nat} {p xs q:List D} {v:V} (rx:RE O P H0 H (.nwt p xs q) v):∃a,H0 a=none/\RS O (a::P) H (σ.set i (some v)) (δ.set i (some (.tpo p xs q))):=by
 obtain ⟨t,a,ps,vs,qs,rfl,hz,ht,hn,ha,l1,l2,l3⟩:=rx
 refine ⟨a,hn,r.ownG hs hn ha (fun _=>nofun) ⟨t,a,ps,vs,qs,rfl,hz,ht,JZ,ha,l1,l2,l3⟩ fun b h=>?_⟩
 obtain ⟨t',us,e',ht',hu⟩:=h
 cases e'
 rw [ht] at ht'
 cases ht'
 rw [l1.length,List.getElem?_append_right (J5 _),Nat.sub_self] at hu
 cases hu
 rfl
end
noncomputable def EG (g:TG) (sf:D->DS->Option DS):Prop:=∀(O P:List Addr) (H:Hp) (σ:St) (δ δ':DS) (d:D) (v:V) (Q:St->Hp->Prop),RS O P H σ δ->Rp (P++O) H d v->sf d δ=some δ'->(∀σ',RS O P H σ' δ'->Q σ' H)->g v σ H Q
noncomputable def ar (i:Nat) (d:D) (δ:DS):Option DS:=some (δ.set i (some (.d d)))
theorem aJ (i:Nat):EG (oE i) (ar i):=fun O P H σ δ δ' d v Q r rd e h=>by
 cases e
 exact h _ (r.set (x:=.d d) rd (fun _=>nofun) rfl)
noncomputable def kM (ds:List D) (δ:DS):Option DS:=match ds with
 |[]=>some δ
 |_=>none
noncomputable def cm (sf:D->DS->Option DS) (st:List D->DS->Option DS) (ds:List D) (δ:DS):Option DS:=match ds with
 |[]=>none
 |d::r=>match sf d δ with
  |some δ'=>st r δ'
  |none=>none
noncomputable def kn (n:Nat) (st:List D->DS->Option DS) (d:D) (δ:DS):Option DS:=match d with
 |.tuple ds=>if ds.length=n then st ds δ else none
 |_=>none
noncomputable def C9 (g:Cj) (sf:List D->DS->Option DS):Prop:=∀(O P:List Addr) (H:Hp) (σ:St) (δ δ':DS) (ds:List D) (vs:List V) (Q:St->Hp->Prop),RS O P H σ δ->RpL (P++O) H ds vs->sf ds δ=some δ'->(∀σ',RS O P H σ' δ'->Q σ' H)->g vs σ H Q
theorem oH:C9 HN kM:=fun O P H σ δ δ' ds vs Q r rd e h=>by
 cases rd with
 |nil=>cases e; exact ⟨rfl,h σ r⟩
 |cons _ _=>cases e
theorem fR {g:TG} {sf:D->DS->Option DS} {gs:Cj} {st:List D->DS->Option DS} (h1:EG g sf) (h2:C9 gs st):C9 (EW g gs) (cm sf st):=fun O P H σ δ δ' ds vs Q r rd e h=>by
 cases rd with
 |nil=>cases e
 |cons r1 rr=>
  unfold cm at e
  simp only at e
  split at e
  ·rename_i δ1 e1
   exact ⟨_,_,rfl,h1 O P H σ δ δ1 _ _ _ r r1 e1 fun σ1 rs1=>h2 O P H σ1 δ1 δ' _ _ Q rs1 rr e h⟩
  ·cases e
theorem qi {K:Kd} {n:Nat} {gs:Cj} {st:List D->DS->Option DS} (h:C9 gs st):EG (Hz K n gs) (kn n st):=fun O P H σ δ δ' d v Q r rd e hq=>by
 unfold kn at e
 split at e
 ·split at e
  ·rename_i hn
   cases rd with
   |tup hz ha l=>exact ⟨_,_,rfl,ka.of ha,by rw [<-l.length]; exact hn,h O P H σ δ δ' _ _ Q r l e hq⟩
  ·cases e
 ·cases e
noncomputable def Eb (n:Nat) (fm:List DV->M DV):Sp:=fun vs H Q _=>vs.length=n/\∃O xs x,(∀a,a∈O->∃o,H a=some o)/\lA O [] H H xs vs/\fm xs=some (.ok x)/\∀v H',aD H H'->RE O [] H H' x v->Q v H'
noncomputable def args:List DV->Option (List DV)
 |[]=>some []
 |x::r=>match ER x,args r with
  |some y,some ys=>some (y::ys)
  |_,_=>none
@[simp] theorem args_nil:args []=some []:=rfl
theorem gx (x:DV) (r:List DV):args (x::r)=match ER x,args r with|some y,some ys=>some (y::ys)|_,_=>none:=rfl
@[simp] theorem vJ (x:D) (r:List DV):args (.d x::r)=(args r).map (.d x::·):=by
 rw [gx,Hh]; cases args r <;> rfl
@[simp] theorem og (C:Addr) (fs:List (Str×D)) (r:List DV):args (.ob C fs::r)=(args r).map (.ob C fs::·):=by
 rw [gx,FY]; cases args r <;> rfl
@[simp] theorem pU (xs:List D) (r:List DV):args (.new xs::r)=(args r).map (.d (.list xs)::·):=by
 rw [gx,CM]; cases args r <;> rfl
@[simp] theorem oQ (K:Kd) (ns:List Int) (r:List DV):args (.scr K ns::r)=(args r).map (.scr K ns::·):=by
 rw [gx,Ej]; cases args r <;> rfl
theorem RE.hand {O P:List Addr} {H₀ H:Hp} {x y:DV} {v:V} (dom:∀a,a∈P++O->∃o,H₀ a=some o) (hs:aD H₀ H) (r:RE O P H₀ H x v) (h:ER x=some y):RE (P++O) [] H H y v:=by
 cases x with
 |d z=>cases h; exact r
 |ob C fs=>cases h; exact r
 |fz kvs=>cases h; exact r
 |ex q=>cases h; exact r
 |tpo p xs q=>cases h
 |nwt p xs q=>cases h; exact pF dom r
 |own xs=>cases h
 |new xs=>cases h; exact lX dom r
 |scr K ns=>cases h; exact r
theorem lA.hand {O P:List Addr} {H₀ H:Hp} (dom:∀a,a∈P++O->∃o,H₀ a=some o) (hs:aD H₀ H):∀{xs ys:List DV} {vs:List V},lA O P H₀ H xs vs->args xs=some ys->lA (P++O) [] H H ys vs
 |_,_,_,.nil,h=>by cases h; exact .nil
 |_,_,_,.cons r t,h=>by
  rw [gx] at h
  split at h
  ·rename_i y ys h1 h2
   cases h
   exact .cons (r.hand dom hs h1) (lA.hand dom hs t h2)
  ·cases h
theorem RE.back {O P:List Addr} {H₀ H H':Hp} {x:DV} {v:V} (hs:aD H₀ H) (r:RE (P++O) [] H H' x v):RE O P H₀ H' x v:=by
 cases x with
 |d z=>exact r
 |ob C fs=>exact r
 |fz kvs=>exact r
 |ex q=>exact r
 |tpo p xs q=>
  obtain ⟨t,a,ps,vs,qs,e,hz,ht,hP,_⟩:=r
  cases hP
 |nwt p xs q=>
  obtain ⟨t,a,ps,vs,qs,e,hz,ht,hn,ha,ll⟩:=r
  exact ⟨t,a,ps,vs,qs,e,hz,ht,hs.free hn,ha,ll⟩
 |own xs=>
  obtain ⟨a,vs,e,hP,_⟩:=r
  cases hP
 |new xs=>
  obtain ⟨a,vs,e,hn,ha,l⟩:=r
  exact ⟨a,vs,e,hs.free hn,ha,l⟩
 |scr K ns=>exact r
noncomputable def Fm {α:Type} (m:M α):M α:=match m with
 |some (.ok x)=>some (.ok x)
 |_=>none
@[simp] theorem wd {α:Type} (x:α):Fm (some (.ok x):M α)=some (.ok x):=rfl
@[simp] theorem wR {α:Type} (x:α):Fm (rt x)=rt x:=rfl
noncomputable def ax (n:Nat) (fm:List DV->M DV) (xs:List DV):M DV:=bd (op (args xs)) fun ys=>if ys.length=n then Fm (fm ys) else none
section
variable {X:Cx} {E:XK} {a b c e o:Expr} {es:List Expr} {pos p:Pos} {fa fb fc f:DS->M DV} {fr:DS->M (List DV)}
theorem Dp {k:Nat} {fn:Addr} {fd:FuncData} {ps:List Str} {x:Str} {n:Nat} {fm:List DV->M DV} (F:FnOk X.prog X.w X.K X.mg X.base so k fn fd ps (Eb n fm)) (hr:Room k X.A) (hm:X.mg x=some (.ref fn)) (hk:PySem.W.keepIn X.K (.ref fn)=true) (hb:gh X.K fd ps [])
  (ha:uS X E (e::es) fr) (hg:Gl X x:=by rfl) (hdb:(x==("__debug__" : Str))=false:=by decide) (he:starEach (e::es) X.env=(false,eval e X.env)::starEach es X.env:=by rfl) (hpl:(backTo pos (starEach es X.env)).any (·.1)=false:=by rfl) :
  PX X E (.Call (.Name x p) (e::es) [] pos) (aL (ax n fm) fr):=
 PE.mono (xc (E:=E0) F hr hg hm hk hb .nil (fun _ _ _ _ _ _ _ h=>h.elim) ha hdb he hpl) fun σ H Q q=>lK (g:=fun _=>ax n fm) q fun O P δ xs r vs H1 rs rs1 s1 rx e q=>by
  obtain ⟨ys,h1,h2⟩:=bt e
  split at h2
  ·rename_i hl
   cases hf:fm ys with
   |none=>rw [hf] at h2; cases h2
   |some z=>
    rw [hf] at h2
    cases z with
    |error c=>cases h2
    |ok x=>
     cases h2
     have ry:=lA.hand rs.dom s1 rx h1
     refine ⟨?_,P++O,ys,x,fun a ha=>?_,?_,hf,fun v H' s2 rv=>q v H' s2 (rv.back s1)⟩
     ·rw [List.append_nil,<-Paired.length ry]; exact hl
     ·obtain ⟨o,e'⟩:=rs.dom a ha
      exact ⟨o,s1 a o e'⟩
     ·rw [List.append_nil]; exact ry
  ·cases h2
noncomputable def dF (xs:List DV):M DV:=match xs with
 |[x]=>match oM x with
  |some (.list ys)=>rt (.d (.int ys.length))
  |some (.tuple ys)=>rt (.d (.int ys.length))
  |_=>none
 |_=>none
theorem RE.look {O P:List Addr} {H₀ H:Hp} {x:DV} {v:V} {ys:List D} (r:RE O P H₀ H x v):(oM x=some (.list ys)->∃a vs,v=.ref a/\H a=some (.lst vs)/\RpL (P++O) H ys vs)/\(oM x=some (.tuple ys)->∃a vs,v=.ref a/\H a=some (.tup vs)/\RpL (P++O) H ys vs):=by
 refine ⟨fun h=>?_,fun h=>?_⟩
 ·refine r.list ?_
  cases x with
  |d z=>cases h; rfl
  |ob C fs=>cases h
  |fz kvs=>cases h
  |ex q=>cases h
  |tpo p xs q=>cases h
  |nwt p xs q=>cases h
  |own xs=>cases h; rfl
  |new xs=>cases h; rfl
  |scr K ns=>cases h
 ·cases x with
  |d z=>
   cases h
   have r':Rp (P++O) H _ v:=r
   cases r' with
   |tup hz ha l=>exact ⟨_,_,rfl,ha,l⟩
  |ob C fs=>cases h
  |fz kvs=>cases h
  |ex q=>cases h
  |tpo p xs q=>cases h
  |nwt p xs q=>cases h
  |own xs=>cases h
  |new xs=>cases h
  |scr K ns=>cases h
theorem eQ:dS X E (.builtin "len") dF:=dS.of l8 fun O P H₀ H xs vs r Q hd hs rx e q=>by
 unfold dF at e
 split at e
 ·cases rx with
  |cons r1 rr=>
   cases rr
   split at e
   ·rename_i h
    cases e
    obtain ⟨a,vs,rfl,ha,l⟩:=r1.look.1 h
    exact ⟨a,vs,rfl,.inl (gg.of ha),q _ H (aD.refl H) (by rw [l.length]; exact .int _)⟩
   ·rename_i h
    cases e
    obtain ⟨a,vs,rfl,ha,l⟩:=r1.look.2 h
    exact ⟨a,vs,rfl,.inr (ka.of ha),q _ H (aD.refl H) (by rw [l.length]; exact .int _)⟩
   ·cases e
 ·cases e
open Classical in
noncomputable def vi (K:Kd) (xs:List DV):M DV:=match xs with
 |[.scr K' ns]=>if K'=K then rt (.d (.int ns.length)) else none
 |_=>none
theorem C7:dS X E (.builtin "len") (vi X.K):=dS.of l8 fun O P H₀ H xs vs r Q hd hs rx e q=>by
 unfold vi at e
 split at e
 ·split at e
  ·rename_i hK
   subst hK
   cases e
   cases rx with
   |cons r1 rr=>
    cases rr
    obtain ⟨a,rfl,ha⟩:=r1.scrSq
    refine ⟨a,_,rfl,.inl ha,?_⟩
    rw [List.length_map]
    exact q _ H (aD.refl H) (.int _)
  ·cases e
 ·cases e
noncomputable def AX (xs:List DV):M DV:=match xs with
 |[x]=>match oM x with
  |some (.list ys)=>rt (.new ys)
  |some (.tuple ys)=>rt (.new ys)
  |_=>none
 |_=>none
theorem C5:dS X E (.type "list") AX:=dS.of r9 fun O P H₀ H xs vs r Q hd hs rx e q=>by
 unfold AX at e
 split at e
 ·cases rx with
  |cons r1 rr=>
   cases rr
   split at e
   ·rename_i h
    cases e
    obtain ⟨a,vs,rfl,ha,l⟩:=r1.look.1 h
    exact ⟨a,vs,rfl,.inl (gg.of ha),fun p hp=>q _ _ (a9 hp) (RE.made hs hp l)⟩
   ·rename_i h
    cases e
    obtain ⟨a,vs,rfl,ha,l⟩:=r1.look.2 h
    exact ⟨a,vs,rfl,.inr (ka.of ha),fun p hp=>q _ _ (a9 hp) (RE.made hs hp l)⟩
   ·cases e
 ·cases e
noncomputable def Ar (xs:List DV):M DV:=match xs with
 |[.d (.int i)]=>rt (.d (.int i))
 |[.d (.bool k)]=>rt (.d (.int (if k then 1 else 0)))
 |_=>none
theorem E8:dS X E (.type "int") Ar:=dS.of zp fun O P H₀ H xs vs r Q hd hs rx e q=>by
 unfold Ar at e
 split at e
 ·cases e
  cases rx with
  |cons r1 rr=>
   cases rr
   cases r1
   exact .inl ⟨_,rfl,q _ H (aD.refl H) (.int _)⟩
 ·cases e
  cases rx with
  |cons r1 rr=>
   cases rr
   cases r1
   exact .inr ⟨_,rfl,q _ H (aD.refl H) (.int _)⟩
 ·cases e
noncomputable def sL (xs:List DV):M DV:=match xs with
 |[.d (.int i),.d (.int j)]=>rt (.d (.int (if j<i then j else i)))
 |_=>none
theorem wy (hc:X.calm=true):dS X E (.builtin "min") sL:=dS.of (zv hc) fun O P H₀ H xs vs r Q hd hs rx e q=>by
 unfold sL at e
 split at e
 ·cases e
  cases rx with
  |cons r1 rr=>
   cases rr with
   |cons r2 rr=>
    cases rr
    cases r1
    cases r2
    exact ⟨_,_,rfl,q _ H (aD.refl H) (.int _)⟩
 ·cases e
end
inductive Out where
 |nx (δ:DS)
 |rt (x:DV)
 |bk (δ:DS)
 |ct (δ:DS)
noncomputable def DH (E:XK) (O P:List Addr) (H:Hp) (T:Ends):Except Value Out->Prop
 |.ok (.nx δ)=>∀σ' H' P',Kp P H P' H'->RS O P' H' σ' δ->T.nx σ' H'
 |.ok (.bk δ)=>∀σ' H' P',Kp P H P' H'->RS O P' H' σ' δ->T.bk σ' H'
 |.ok (.ct δ)=>∀σ' H' P',Kp P H P' H'->RS O P' H' σ' δ->T.ct σ' H'
 |.ok (.rt x)=>∀v H1 H' P',Kp P H P' H1->aD H1 H'->(∀a,a∈P'++O->∃o,H1 a=some o)->(∀a,a∈P'->a∉O)->RE O P' H1 H' x v->T.rt v H'
 |.error c=>∀dx H' P',Kp P H P' H'->E c dx H'
theorem DH.on {E:XK} {O P P1:List Addr} {H H1:Hp} {T:Ends} {r:Except Value Out} (h:DH E O P H T r) (k:Kp P H P1 H1):DH E O P1 H1 T r:=by
 cases r with
 |error c=>exact fun dx H' P' k'=>h dx H' P' (k.trans k')
 |ok o=>
  cases o with
  |nx δ=>exact fun σ' H' P' k' rs=>h σ' H' P' (k.trans k') rs
  |bk δ=>exact fun σ' H' P' k' rs=>h σ' H' P' (k.trans k') rs
  |ct δ=>exact fun σ' H' P' k' rs=>h σ' H' P' (k.trans k') rs
  |rt x=>exact fun v H2 H' P' k' s d ap rx=>h v H2 H' P' (k.trans k') s d ap rx
noncomputable def tS (E:XK) (F:DS->M Out):TS:=fun T σ H=>∃O P δ r,RS O P H σ δ/\F δ=some r/\DH E O P H T r
noncomputable def yc (X:Cx) (E:XK) (st:Stmt) (F:DS->M Out):Prop:=PS X st (tS E F)
noncomputable def y0 (X:Cx) (E:XK) (st:List Stmt) (F:DS->M Out):Prop:=qy X st (tS E F)
theorem PS.mono {X:Cx} {st:Stmt} {t t':TS} (h:PS X st t) (m:∀T σ H,t' T σ H->t T σ H):PS X st t':=fun pins s σ H T I q=>h pins s σ H T I (m T σ H q)
theorem qy.mono {X:Cx} {st:List Stmt} {t t':TS} (h:qy X st t) (m:∀T σ H,t' T σ H->t T σ H):qy X st t':=fun pins s σ H T I q=>h pins s σ H T I (m T σ H q)
noncomputable def Iu (F:DS->M Out) (o:Out):M Out:=match o with
 |.nx δ=>F δ
 |.rt x=>rt (.rt x)
 |.bk δ=>rt (.bk δ)
 |.ct δ=>rt (.ct δ)
@[simp] theorem wX (F:DS->M Out) (δ:DS):Iu F (.nx δ)=F δ:=rfl
@[simp] theorem vA (F:DS->M Out) (x:DV):Iu F (.rt x)=rt (.rt x):=rfl
noncomputable def bE (F G:DS->M Out) (δ:DS):M Out:=bd (F δ) (Iu G)
noncomputable def bP (δ:DS):M Out:=rt (.nx δ)
section
variable {X:Cx} {E:XK} {st:Stmt} {sts:List Stmt} {F G:DS->M Out} {e c:Expr} {pos:Pos} {f:DS->M DV} {fr:DS->M (List DV)} {gc:DS->M Bool}
theorem bV:y0 X E [] bP:=qy.mono nW fun T σ H q=>by
 obtain ⟨O,P,δ,r,rs,e,q⟩:=q
 cases e
 exact q σ H P (.refl) rs
theorem aq (h1:yc X E st F) (h2:y0 X E sts G):y0 X E (st::sts) (bE F G):=qy.mono (fX h1 h2) fun T σ H q=>by
 obtain ⟨O,P,δ,r,rs,e,q⟩:=q
 rcases az e with ⟨o,e1,e2⟩|⟨c,e1,e2⟩
 ·cases o with
  |nx δ1=>exact ⟨O,P,δ,.ok (.nx δ1),rs,e1,fun σ' H' P' k rs'=>⟨O,P',δ1,r,rs',e2,q.on k⟩⟩
  |rt x=>cases e2; exact ⟨O,P,δ,.ok (.rt x),rs,e1,q⟩
  |bk δ1=>cases e2; exact ⟨O,P,δ,.ok (.bk δ1),rs,e1,q⟩
  |ct δ1=>cases e2; exact ⟨O,P,δ,.ok (.ct δ1),rs,e1,q⟩
 ·subst e2
  exact ⟨O,P,δ,.error c,rs,e1,q⟩
theorem ay (h1:yc X E st F):y0 X E [st] F:=fS h1
noncomputable def frz (i:Nat) (δ:DS):DS:=match δ[i]? with
 |some (some (.own xs))=>δ.set i (some (.d (.list xs)))
 |some (some (.tpo p xs q))=>δ.set i (some (.d (.tuple (p++.list xs::q))))
 |_=>δ
theorem RS.frzG {O P:List Addr} {H:Hp} {σ:St} {δ:DS} (r:RS O P H σ δ) {i:Nat} {x:DV} {v:V} {a:Addr} {d:D} (e:δ[i]?=some (some x)) (ev:σ[i]?=some (some v)) (o:qA H x v a) (hd:Rp (P.filter (fun b=>!decide (b=a))++O) H d v):RS O (P.filter (fun b=>!decide (b=a))) H σ (δ.set i (some (.d d))):=by
 have hi:i<δ.length:=(List.getElem?_eq_some_iff.mp e).1
 have sub:∀b,b∈P.filter (fun b=>!decide (b=a))->b∈P:=fun b hb=>(List.mem_filter.mp hb).1
 have subz:∀b,b∈P.filter (fun b=>!decide (b=a))++O->b∈P++O:=fun b hb=>by
  rcases List.mem_append.mp hb with h|h
  ·exact J3 _ (sub b h)
  ·exact J2 _ h
 refine ⟨by simp [r.len],fun b hb=>r.dom b (subz b hb),fun b hb=>r.apart b (sub b hb),fun j y ej=>?_,fun j m y z v1 v2 c e1 e2 e3 e4 o1 o2=>?_⟩
 ·by_cases hj:i=j
  ·subst hj
   rw [List.getElem?_set_self hi] at ej
   cases ej
   exact ⟨v,ev,fun _=>nofun,hd⟩
  ·rw [List.getElem?_set_ne hj] at ej
   obtain ⟨w,e1,e2,e3⟩:=r.at' j y ej
   refine ⟨w,e1,e2,?_⟩
   have ne:∀c,qA H y w c->c∈P->c∈P.filter (fun b=>!decide (b=a)):=fun c oc hc=>by
    refine List.mem_filter.mpr ⟨hc,?_⟩
    have:c≠a:=fun z=>hj (r.one i j x y v w a e ej ev e1 o (z▸oc))
    simpa using this
   cases y with
   |d y=>exact Rp.kp (.sub subz) e3
   |ob C fs=>exact Co.kp (.sub subz) e3
   |fz kvs=>exact xZ.kp (.sub subz) e3
   |ex q=>exact e3
   |tpo p xs q=>
    obtain ⟨t,b,ps,vs,qs,et,hz,ht,hb,hl,l1,l2,l3⟩:=e3
    refine ⟨t,b,ps,vs,qs,et,fun h=>hz (subz t h),ht,ne b ⟨t,_,et,ht,?_⟩ hb,hl,l1.kp (.sub subz),l2.kp (.sub subz),l3.kp (.sub subz)⟩
    rw [l1.length,List.getElem?_append_right (J5 _),Nat.sub_self]; rfl
   |nwt p xs q=>exact (Bt.no e3).elim
   |own ys=>
    obtain ⟨b,us,eb,hPb,hb,hl⟩:=e3
    exact ⟨b,us,eb,ne b eb hPb,hb,hl.kp (.sub subz)⟩
   |new ys=>exact absurd rfl (e2 ys)
   |scr K ns=>
    obtain ⟨b,eb,hz⟩:=e3
    exact ⟨b,eb,hz.imp (fun z=>⟨fun h=>z.1 (subz b h),z.2⟩) fun z=>z⟩
 ·have nj:∀(j:Nat) (y:DV),Cy y=true->(δ.set i (some (.d d)))[j]?=some (some y)->δ[j]?=some (some y):=fun j y hy ej=>by
   by_cases hj:i=j
   ·subst hj
    rw [List.getElem?_set_self hi] at ej
    cases ej
    cases hy
   ·rw [List.getElem?_set_ne hj] at ej; exact ej
  exact r.one j m y z v1 v2 c (nj j y o1.q e1) (nj m z o2.q e2) e3 e4 o1 o2
theorem RS.frz {O P:List Addr} {H:Hp} {σ:St} {δ:DS} (r:RS O P H σ δ) (i:Nat):∃P',(∀a,a∈P'->a∈P)/\RS O P' H σ (frz i δ):=by
 have sub:∀a b,b∈P.filter (fun b=>!decide (b=a))->b∈P:=fun a b hb=>(List.mem_filter.mp hb).1
 have nota:∀a,a∈P->a∉P.filter (fun b=>!decide (b=a))++O:=fun a hP h=>by
  rcases List.mem_append.mp h with h|h
  ·have:=(List.mem_filter.mp h).2; simp at this
  ·exact r.apart a hP h
 have subz:∀a b,b∈P.filter (fun b=>!decide (b=a))++O->b∈P++O:=fun a b hb=>by
  rcases List.mem_append.mp hb with h|h
  ·exact J3 _ (sub a b h)
  ·exact J2 _ h
 unfold L3.frz
 split
 ·rename_i xs e
  obtain ⟨v,ev,_,a,vs,rfl,hP,ha,l⟩:=r.at' i _ e
  exact ⟨P.filter (fun b=>!decide (b=a)),sub a,r.frzG e ev rfl (Rp.lst (nota a hP) ha (l.kp (.sub (subz a))))⟩
 ·rename_i p xs q e
  obtain ⟨v,ev,_,t,a,ps,vs,qs,rfl,hz,ht,hP,ha,l1,l2,l3⟩:=r.at' i _ e
  refine ⟨P.filter (fun b=>!decide (b=a)),sub a,r.frzG e ev (a:=a) ⟨t,_,rfl,ht,?_⟩ (Rp.tup (fun h=>hz (subz a t h)) ht (RpL.append (l1.kp (.sub (subz a))) (.cons (Rp.lst (nota a hP) ha (l2.kp (.sub (subz a)))) (l3.kp (.sub (subz a))))))⟩
  rw [l1.length,List.getElem?_append_right (J5 _),Nat.sub_self]; rfl
 ·exact ⟨P,fun _ h=>h,r⟩
theorem DH.sub {O P P':List Addr} {H:Hp} {T:Ends} {r:Except Value Out} (h:DH E O P H T r) (hs:∀a,a∈P'->a∈P):DH E O P' H T r:=h.on (.sub hs)
theorem fP (i:Nat) (h:y0 X E sts F):y0 X E sts (fun δ=>F (frz i δ)):=qy.mono h fun T σ H q=>by
 obtain ⟨O,P,δ,r,rs,e,q⟩:=q
 obtain ⟨P',hP,rs'⟩:=rs.frz i
 exact ⟨O,P',frz i δ,r,rs',e,q.sub hP⟩
noncomputable def fQ (gc:DS->M Bool) (F G:DS->M Out) (δ:DS):M Out:=bd (gc δ) fun k=>if k=true then F δ else G δ
theorem de {as bs:List Stmt} (hc:PB X E c gc) (ha:y0 X E as F) (hb:y0 X E bs G):yc X E (.If c as bs pos) (fQ gc F G):=PS.mono (yA hc ha hb) fun T σ H q=>by
 obtain ⟨O,P,δ,r,rs,e,q⟩:=q
 rcases az e with ⟨k,e1,e2⟩|⟨cx,e1,e2⟩
 ·refine ⟨O,P,δ,.ok k,rs,e1,fun H1 s1=>?_⟩
  cases k with
  |true=>exact vb ⟨O,P,δ,r,rs.same s1,e2,q.on (.same s1)⟩
  |false=>exact uM ⟨O,P,δ,r,rs.same s1,e2,q.on (.same s1)⟩
 ·subst e2
  exact ⟨O,P,δ,.error cx,rs,e1,fun dx H' s=>q dx H' P (.same s)⟩
noncomputable def aZ (f:DS->M DV) (δ:DS):M Out:=bd (f δ) fun x=>rt (.rt x)
theorem aS (he:PX X E e f):yc X E (.Return (some e) pos) (aZ f):=PS.mono (wc he) fun T σ H q=>by
 obtain ⟨O,P,δ,r,rs,e,q⟩:=q
 rcases az e with ⟨x,e1,e2⟩|⟨cx,e1,e2⟩
 ·cases e2
  exact ⟨O,P,δ,.ok x,rs,e1,fun v H1 s1 rx=>q v H H1 P .refl s1 rs.dom rs.apart rx⟩
 ·subst e2
  exact ⟨O,P,δ,.error cx,rs,e1,fun dx H' s=>q dx H' P (.same s)⟩
noncomputable def kJ (f:DS->M DV) (δ:DS):M Out:=bd (f δ) fun _=>rt (.nx δ)
theorem oi (he:PX X E e f) (hs:swapsWith e none pos.line X.env=pure false:=by rfl):yc X E (.Expr e pos) (kJ f):=PS.mono (lY he hs) fun T σ H q=>by
 obtain ⟨O,P,δ,r,rs,e,q⟩:=q
 rcases az e with ⟨x,e1,e2⟩|⟨cx,e1,e2⟩
 ·cases e2
  exact ⟨O,P,δ,.ok x,rs,e1,fun v H1 s1 rx=>q σ H1 P (.same s1) (rs.same s1)⟩
 ·subst e2
  exact ⟨O,P,δ,.error cx,rs,e1,fun dx H' s=>q dx H' P (.same s)⟩
noncomputable def um:DV->Option DV
 |.d x=>some (.d x)
 |.ob C fs=>some (.ob C fs)
 |.fz kvs=>some (.fz kvs)
 |.ex q=>some (.ex q)
 |.scr K ns=>some (.scr K ns)
 |.new xs=>some (.own xs)
 |.own _=>none
 |.tpo _ _ _=>none
 |.nwt p xs q=>some (.tpo p xs q)
@[simp] theorem vD (x:D):um (.d x)=some (.d x):=rfl
@[simp] theorem sC (C:Addr) (fs:List (Str×D)):um (.ob C fs)=some (.ob C fs):=rfl
@[simp] theorem pR (xs:List D):um (.new xs)=some (.own xs):=rfl
@[simp] theorem ph (K:Kd) (ns:List Int):um (.scr K ns)=some (.scr K ns):=rfl
theorem RS.asg {O P:List Addr} {H H1:Hp} {σ:St} {δ:DS} {x y:DV} {v:V} (r:RS O P H σ δ) (s1:aD H H1) (rx:RE O P H H1 x v) (h:um x=some y) (i:Nat) :
  ∃P',Kp P H P' H1/\RS O P' H1 (σ.set i (some v)) (δ.set i (some y)):=by
 cases x with
 |d z=>cases h; exact ⟨P,.same s1,(r.same s1).set rx (fun _=>nofun) rfl⟩
 |ob C fs=>cases h; exact ⟨P,.same s1,(r.same s1).set rx (fun _=>nofun) rfl⟩
 |fz kvs=>cases h; exact ⟨P,.same s1,(r.same s1).set rx (fun _=>nofun) rfl⟩
 |ex q=>cases h; exact ⟨P,.same s1,(r.same s1).set rx (fun _=>nofun) rfl⟩
 |own xs=>cases h
 |tpo p xs q=>cases h
 |nwt p xs q=>
  cases h
  obtain ⟨a,hn,rs⟩:=r.ownT s1 rx (i:=i)
  refine ⟨a::P,⟨fun b o _ e=>s1 b o e,fun b hb=>?_⟩,rs⟩
  rcases List.mem_cons.mp hb with z|z
  ·exact .inr (z▸hn)
  ·exact .inl z
 |scr K ns=>cases h; exact ⟨P,.same s1,(r.same s1).set rx (fun _=>nofun) rfl⟩
 |new xs=>
  cases h
  obtain ⟨a,hn,rs⟩:=r.own s1 rx (i:=i)
  refine ⟨a::P,⟨fun b o _ e=>s1 b o e,fun b hb=>?_⟩,rs⟩
  rcases List.mem_cons.mp hb with z|z
  ·exact .inr (z▸hn)
  ·exact .inl z
noncomputable def aW (i:Nat) (f:DS->M DV) (δ:DS):M Out:=bd (f δ) fun x=>bd (op (um x)) fun y=>rt (.nx (δ.set i (some y)))
theorem aP {i:Nat} {x:Str} {pos':Pos} (hN:X.N.Nodup) (he:PX X E e f) (hi:X.N[i]?=some x:=by rfl) (hx:Hn X.env.scope x:=by first|exact Or.inl rfl|exact Or.inr rfl) (hs:swapsWith e (some (.Name x pos')) pos.line X.env=pure false:=by rfl)
  (hf:X.fn x=true\/X.env.scope.names.lookup x=some .local:=by first|exact .inl rfl|exact .inr rfl|assumption):yc X E (.Assign [.Name x pos'] e pos) (aW i f):=PS.mono (AJ hN hi hx he hs hf) fun T σ H q=>by
 obtain ⟨O,P,δ,r,rs,e,q⟩:=q
 rcases az e with ⟨x,e1,e2⟩|⟨cx,e1,e2⟩
 ·obtain ⟨y,e3,e4⟩:=bt e2
  cases e4
  refine ⟨O,P,δ,.ok x,rs,e1,fun v H1 s1 rx=>?_⟩
  obtain ⟨P',k,rs'⟩:=rs.asg s1 rx e3 i
  exact q _ H1 P' k rs'
 ·subst e2
  exact ⟨O,P,δ,.error cx,rs,e1,fun dx H' s=>q dx H' P (.same s)⟩
noncomputable def Cn (sf:D->DS->Option DS) (f:DS->M DV) (δ:DS):M Out:=bd (f δ) fun x=>bd (op (vx x)) fun d=>bd (op (sf d δ)) fun δ'=>rt (.nx δ')
theorem Be {tg:Expr} {g:TG} {sf:D->DS->Option DS} (he:PX X E e f) (hg:PG X tg g) (ht:EG g sf) (hs:swapsWithSole [tg] e pos.line X.env=pure false:=by rfl) (hw:swappedStores [tg] e X.env=pure none:=by rfl)
  (h1:(assignEach [tg] X.env).map (·.2)=[assign tg X.env]:=by rfl):yc X E (.Assign [tg] e pos) (Cn sf f):=PS.mono (Gj he hg hs hw h1) fun T σ H q=>by
 obtain ⟨O,P,δ,r,rs,e,q⟩:=q
 rcases az e with ⟨x,e1,e2⟩|⟨cx,e1,e2⟩
 ·obtain ⟨d,e3,e4⟩:=bt e2
  obtain ⟨δ',e5,e6⟩:=bt e4
  cases e6
  refine ⟨O,P,δ,.ok x,rs,e1,fun v H1 s1 rx=>?_⟩
  exact ht O P H1 σ δ δ' d v _ (rs.same s1) (rx.data rs.dom e3) e5 fun σ' rs'=>q σ' H1 P (.same s1) rs'
 ·subst e2
  exact ⟨O,P,δ,.error cx,rs,e1,fun dx H' s=>q dx H' P (.same s)⟩
noncomputable def FV (i j:Nat) (fr:DS->M (List DV)) (δ:DS):M Out:=bd (fr δ) fun xs=>bd (op (dX xs)) fun ds=>match ds with
 |[x,y]=>rt (.nx ((δ.set i (some (.d x))).set j (some (.d y))))
 |_=>none
noncomputable def kr (i:Nat) (f:DS->M DV) (δ:DS):M Out:=match δ[i]? with
 |some (some (.own xs))=>bd (f δ) fun x=>bd (op (vx x)) fun d=>if xs.length<1000000 then rt (.nx (δ.set i (some (.own (xs++[d]))))) else none
 |_=>none
theorem RS.growG {O P:List Addr} {H:Hp} {σ:St} {δ:DS} {i:Nat} {x x':DV} {v:V} {a:Addr} {us:List V} (r:RS O P H σ δ) (e:δ[i]?=some (some x)) (ev:σ[i]?=some (some v)) (o:qA H x v a) (hx:∀xs,x'≠.new xs) (rx:RE O P (upd H a (.lst us)) (upd H a (.lst us)) x' v) (ox:∀b,qA (upd H a (.lst us)) x' v b->b=a) (hP:a∈P) :
  Kp P H P (upd H a (.lst us))/\RS O P (upd H a (.lst us)) σ (δ.set i (some x')):=by
 have hi:i<δ.length:=(List.getElem?_eq_some_iff.mp e).1
 have k:Kp P H P (upd H a (.lst us)):=⟨fun b o hb q=>by rw [aA (show b≠a from fun z=>hb (by rw [z]; exact hP))]; exact q,fun b hb=>.inl hb⟩
 have kz:Kp (P++O) H (P++O) (upd H a (.lst us)):=⟨fun b o hb q=>by rw [aA (show b≠a from fun z=>hb (by rw [z]; exact J3 _ hP))]; exact q,fun b hb=>.inl hb⟩
 have old:∀(j:Nat) (y:DV) (w:V) (c:Addr),δ[j]?=some (some y)->σ[j]?=some (some w)->qA (upd H a (.lst us)) y w c->qA H y w c:=fun j y w c e q o=>by
  obtain ⟨w',e1,_,r1⟩:=r.at' j _ e
  rw [q] at e1
  cases e1
  exact o.old kz.keep r1
 refine ⟨k,by simp [r.len],fun b hb=>?_,r.apart,fun j y ej=>?_,fun j m y z v1 v2 c e1 e2 e3 e4 o1 o2=>?_⟩
 ·by_cases hb':b=a
  ·exact ⟨_,by rw [hb',aN]⟩
  ·rw [aA hb']; exact r.dom b hb
 ·by_cases hj:i=j
  ·subst hj
   rw [List.getElem?_set_self hi] at ej
   cases ej
   exact ⟨v,ev,hx,rx⟩
  ·rw [List.getElem?_set_ne hj] at ej
   obtain ⟨w,e1,e2,e3⟩:=r.at' j y ej
   refine ⟨w,e1,e2,?_⟩
   have ne:∀c,qA H y w c->c≠a:=fun c oc z=>hj (r.one i j x y v w a e ej ev e1 o (z▸oc))
   cases y with
   |d y=>exact Rp.kp kz e3
   |ob C fs=>exact Co.kp kz e3
   |fz kvs=>exact xZ.kp kz e3
   |ex q=>exact e3
   |tpo p xs q=>
    obtain ⟨t,b,ps,vs,qs,et,hz,ht,hb,hl,l1,l2,l3⟩:=e3
    have hne:b≠a:=ne b ⟨t,_,et,ht,by rw [l1.length,List.getElem?_append_right (J5 _),Nat.sub_self]; rfl⟩
    exact ⟨t,b,ps,vs,qs,et,hz,(kz.at hz ht).2,hb,by rw [aA hne]; exact hl,l1.kp kz,l2.kp kz,l3.kp kz⟩
   |nwt p xs q=>exact (Bt.no e3).elim
   |own zs=>
    obtain ⟨b,vs,eb,hPb,hb,hl⟩:=e3
    have hne:b≠a:=ne b eb
    exact ⟨b,vs,eb,hPb,by rw [aA hne]; exact hb,hl.kp kz⟩
   |new zs=>exact absurd rfl (e2 zs)
   |scr K ns=>
    obtain ⟨b,eb,⟨hz,hb⟩|hk⟩:=e3
    ·have hba:b≠a:=fun z=>hz (by rw [z]; exact J3 _ hP)
     refine ⟨b,eb,.inl ⟨hz,?_⟩⟩
     rcases hb with hb|⟨ob,hb⟩
     ·exact .inl (by rw [aA hba]; exact hb)
     ·exact .inr ⟨ob,by rw [aA hba]; exact hb⟩
    ·exact ⟨b,eb,.inr hk⟩
 ·have nj:∀(j:Nat) (y:DV) (w:V),(δ.set i (some x'))[j]?=some (some y)->σ[j]?=some (some w)->qA (upd H a (.lst us)) y w c->∃y',δ[j]?=some (some y')/\qA H y' w c:=fun j y w ej eq oc=>by
   by_cases hj:i=j
   ·subst hj
    rw [List.getElem?_set_self hi] at ej
    cases ej
    rw [ev] at eq
    cases eq
    have hc:=ox c oc
    exact ⟨x,e,hc▸o⟩
   ·rw [List.getElem?_set_ne hj] at ej; exact ⟨y,ej,old j y w c ej eq oc⟩
  obtain ⟨z1,d1,p1⟩:=nj j _ _ e1 e3 o1
  obtain ⟨z2,d2,p2⟩:=nj m _ _ e2 e4 o2
  exact r.one j m z1 z2 v1 v2 c d1 d2 e3 e4 p1 p2
theorem RS.grow {O P:List Addr} {H:Hp} {σ:St} {δ:DS} {i:Nat} {xs ys:List D} {a:Addr} {us:List V} (r:RS O P H σ δ) (e:δ[i]?=some (some (.own xs))) (ev:σ[i]?=some (some (.ref a))) (l:RpL (P++O) H ys us) (hP:a∈P) :
  Kp P H P (upd H a (.lst us))/\RS O P (upd H a (.lst us)) σ (δ.set i (some (.own ys))):=by
 have kz:Kp (P++O) H (P++O) (upd H a (.lst us)):=⟨fun b o hb q=>by rw [aA (show b≠a from fun z=>hb (by rw [z]; exact J3 _ hP))]; exact q,fun b hb=>.inl hb⟩
 exact r.growG e ev (x:=.own xs) rfl (fun _=>nofun) ⟨a,us,rfl,hP,aN,l.kp kz⟩ (fun b h=>by
  have h':V.ref a=.ref b:=h
  cases h'; rfl) hP
theorem r0 {i:Nat} {o:Expr} {apos cpos:Pos} (ho:PE X o (gY i)) (he:PX X E e f)
  (hbase:attributeBase o "append" X.env (eval o X.env)=eval o X.env:=by rfl)
  (hfew:((backTo cpos (starEach [e] X.env)).all (fun x=>!x.1)&&(backToKw cpos (keywordEach [] X.env)).all (fun x=>x.1.isSome)
   && decide ([e].length+([]:List Keyword).length+(if ([]:List Keyword).isEmpty then 0 else 1)<30))=true:=by rfl)
  (hline:(apos.endLine==cpos.line)=true:=by rfl) (hs:starEach [e] X.env=(false,eval e X.env)::starEach [] X.env:=by rfl) (hplain:(backTo cpos (starEach [] X.env)).any (·.1)=false:=by rfl)
  (hsw:swapsWith (.Call (.Attribute o "append" apos) [e] [] cpos) none pos.line X.env=pure false:=by rfl):yc X E (.Expr (.Call (.Attribute o "append" apos) [e] [] cpos) pos) (kr i f):=
 PS.mono (lY (uv PySem.F.plainAttrs_list PySem.F.slot_list_append PySem.F.type_list_append rZ ho (j8 he kR hs) hbase hfew hline hs hplain) hsw) fun T σ H q=>by
  obtain ⟨O,P,δ,r,rs,e,q⟩:=q
  unfold kr at e
  split at e
  ·rename_i xs ei
   obtain ⟨v,ev,_,a,vs,rfl,hP,ha,l⟩:=rs.at' i _ ei
   refine ⟨.ref a,ev,.inl ⟨rfl,_,gg.of ha⟩,?_⟩
   rcases az e with ⟨x,e1,e2⟩|⟨cx,e1,e2⟩
   ·obtain ⟨d,e3,e4⟩:=bt e2
    split at e4
    ·rename_i hz
     cases e4
     refine ⟨O,P,δ,.ok x,rs,e1,fun u H1 s1 rx=>?_⟩
     have ru:=rx.data rs.dom e3
     have l1:=(l.kp (.same s1)).append (.cons ru .nil)
     obtain ⟨k,rs'⟩:=(rs.same s1).grow ei ev l1 hP
     refine ⟨a,vs,u,rfl,rfl,s1 a _ ha,?_,q σ _ P ((Kp.same s1).trans k) rs'⟩
     rw [<-l.length]
     exact Nat.lt_of_lt_of_le hz (by rw [sizeLine_eq]; decide)
    ·cases e4
   ·subst e2
    exact ⟨O,P,δ,.error cx,rs,e1,fun dx H' s=>q dx H' P (.same s)⟩
  ·cases e
end
theorem Kp.app {O P P':List Addr} {H H':Hp} (k:Kp P H P' H'):Kp (P++O) H (P'++O) H':=⟨fun a o ha e=>k.keep a o (fun h=>ha (J3 _ h)) e,fun a ha=>by
 rcases List.mem_append.mp ha with h|h
 ·rcases k.new a h with z|z
  ·exact .inl (J3 _ z)
  ·exact .inr z
 ·exact .inl (J2 _ h)⟩
noncomputable def CD (O P:List Addr) (H:Hp) (J:It) (xs:List D):Prop:=∀(i:Nat) (P':List Addr) (H':Hp),Kp P H P' H' ->
 (∀d,xs[i]?=some d->J.go i H'/\∀x H2,J.yld i H' x H2->H2=H'/\Rp (P'++O) H' d x)/\(xs.length<=i->J.stop i H')
noncomputable def JL (E:XK) (O P:List Addr) (H:Hp) (R:It->Hp->Prop):Except Value (List D)->Prop
 |.ok xs=>∀J H',aD H H'->CD O P H' J xs->R J H'
 |.error c=>∀dx H',aD H H'->E c dx H'
noncomputable def tI (E:XK) (f:DS->M (List D)):TI:=fun σ H R=>∃O P δ r,RS O P H σ δ/\f δ=some r/\JL E O P H R r
noncomputable def Ce (X:Cx) (E:XK) (tg iter:Expr) (f:DS->M (List D)):Prop:=PI X tg iter (tI E f)
theorem PI.mono {X:Cx} {tg e:Expr} {t t':TI} (h:PI X tg e t) (m:∀σ H R,t' σ H R->t σ H R):PI X tg e t':=fun pins s σ H R I q=>h pins s σ H R I (m σ H R q)
noncomputable def kG (f:DS->M DV) (δ:DS):M (List D):=bd (f δ) fun x=>match vx x with
 |some (.list xs)=>rt xs
 |_=>none
noncomputable def FD (f:DS->M DV) (δ:DS):M (List D):=bd (f δ) fun x=>match x with
 |.d (.tuple xs)=>rt xs
 |_=>none
noncomputable def df (lo:Int) (n:Nat):List D:=(List.range n).map fun (k:Nat)=>PyData.int (lo+(k:Int))
theorem eZ (lo:Int) (n:Nat):(df lo n).length=n:=by simp [df]
theorem zS {lo:Int} {n i:Nat} {d:D} (h:(df lo n)[i]?=some d):i<n/\d=.int (lo+(i:Int)):=by
 have hi:i<n:=by rw [<-eZ lo n]; exact (List.getElem?_eq_some_iff.mp h).1
 refine ⟨hi,?_⟩
 unfold df at h
 rw [List.getElem?_map,List.getElem?_range hi] at h
 cases h; rfl
noncomputable def qW (fr:DS->M (List DV)) (δ:DS):M (List D):=bd (fr δ) fun xs=>match xs with
 |[.d (.int j)]=>if -(2 ^ 62)<=j/\j<2 ^ 62 then rt (df 0 j.toNat) else none
 |_=>none
noncomputable def qI (fr:DS->M (List DV)) (δ:DS):M (List D):=bd (fr δ) fun xs=>match xs with
 |[.d (.int i),.d (.int j)]=>if -(2 ^ 62)<=i/\i<2 ^ 62/\-(2 ^ 62)<=j/\j<2 ^ 62 then rt (df i (j-i).toNat) else none
 |_=>none
section
variable {X:Cx} {E:XK} {tg e a b:Expr} {f:DS->M DV} {fr:DS->M (List DV)} {p pos:Pos}
theorem ux {O P:List Addr} {H:Hp} (lo:Int) (n:Nat):CD O P H (Hv lo n) (df lo n):=fun i P' H' k=>by
 refine ⟨fun d hd=>?_,fun h=>?_⟩
 ·obtain ⟨hi,rfl⟩:=zS hd
  exact ⟨hi,fun x H2 ⟨e1,e2⟩=>⟨e1,by rw [e2]; exact .int _⟩⟩
 ·rw [eZ] at h; exact h
theorem Eg {O P:List Addr} {H:Hp} {K:Kd} {xs:List D} {v:V} (r:Rp (P++O) H (.list xs) v):∃a,v=.ref a/\(∃vs,gg K H a vs)/\CD O P H (Ji K a) xs:=by
 cases r with
 |@lst a _ vs hz ha l=>
  refine ⟨a,rfl,⟨vs,gg.of ha⟩,fun i P' H' k=>?_⟩
  have ha':=k.keep a _ (fun h=>hz (J3 _ h)) ha
  have l':=l.kp (Kp.app (O:=O) k)
  refine ⟨fun d hd=>?_,fun h=>⟨vs,gg.of ha',by rw [<-l.length]; exact h⟩⟩
  obtain ⟨x,hx,rx⟩:=l'.get hd
  refine ⟨⟨vs,x,gg.of ha',hx⟩,fun y H2 ⟨e1,e2⟩=>⟨e1,?_⟩⟩
  have:=e2 vs (gg.of ha')
  rw [hx] at this
  cases this; exact rx
theorem GL {O P:List Addr} {H:Hp} {K:Kd} {xs:List D} {v:V} (r:Rp (P++O) H (.tuple xs) v):∃a,v=.ref a/\(∃vs,ka K H a vs)/\CD O P H (IB K a) xs:=by
 cases r with
 |@tup a _ vs hz ha l=>
  refine ⟨a,rfl,⟨vs,ka.of ha⟩,fun i P' H' k=>?_⟩
  have ha':=k.keep a _ (fun h=>hz (J3 _ h)) ha
  have l':=l.kp (Kp.app (O:=O) k)
  refine ⟨fun d hd=>?_,fun h=>⟨vs,ka.of ha',by rw [<-l.length]; exact h⟩⟩
  obtain ⟨x,hx,rx⟩:=l'.get hd
  refine ⟨⟨vs,x,ka.of ha',hx⟩,fun y H2 ⟨e1,e2⟩=>⟨e1,?_⟩⟩
  have:=e2 vs (ka.of ha')
  rw [hx] at this
  cases this; exact rx
theorem eK (he:PX X E e f):Ce X E tg e (kG f):=PI.mono (DC he) fun σ H R q=>by
 obtain ⟨O,P,δ,r,rs,e,q⟩:=q
 rcases az e with ⟨x,e1,e2⟩|⟨cx,e1,e2⟩
 ·refine ⟨O,P,δ,.ok x,rs,e1,fun v H1 s1 rx=>?_⟩
  split at e2
  ·rename_i xs h
   cases e2
   obtain ⟨a,rfl,h1,h2⟩:=Eg (K:=X.K) (rx.data rs.dom h)
   exact ⟨a,rfl,h1,q _ H1 s1 h2⟩
  ·cases e2
 ·subst e2
  exact ⟨O,P,δ,.error cx,rs,e1,q⟩
theorem E1 (he:PX X E e f):Ce X E tg e (FD f):=PI.mono (FR he) fun σ H R q=>by
 obtain ⟨O,P,δ,r,rs,e,q⟩:=q
 rcases az e with ⟨x,e1,e2⟩|⟨cx,e1,e2⟩
 ·refine ⟨O,P,δ,.ok x,rs,e1,fun v H1 s1 rx=>?_⟩
  split at e2
  ·cases e2
   obtain ⟨a,rfl,h1,h2⟩:=GL (K:=X.K) rx
   exact ⟨a,rfl,h1,q _ H1 s1 h2⟩
  ·cases e2
 ·subst e2
  exact ⟨O,P,δ,.error cx,rs,e1,q⟩
theorem qj (hm:X.mg "range" = none) (ha:uS X E [a] fr) (hg:Gl X "range" :=by rfl) (hs:starEach [a] X.env=[(false,eval a X.env)]:=by rfl):Ce X E tg (.Call (.Name "range" p) [a] [] pos) (qW fr):=PI.mono (zc hg hm ha hs) fun σ H R q=>by
 obtain ⟨O,P,δ,r,rs,e,q⟩:=q
 rcases az e with ⟨xs,e1,e2⟩|⟨cx,e1,e2⟩
 ·refine ⟨O,P,δ,.ok xs,rs,e1,fun vs H1 s1 rx=>?_⟩
  split at e2
  ·split at e2
   ·rename_i h
    cases e2
    cases rx with
    |cons r1 rr=>
     cases rr
     cases r1
     exact ⟨_,rfl,h.1,h.2,q _ H1 s1 (ux 0 _)⟩
   ·cases e2
  ·cases e2
 ·subst e2
  exact ⟨O,P,δ,.error cx,rs,e1,q⟩
theorem pV (hm:X.mg "range" = none) (ha:uS X E [a,b] fr) (hg:Gl X "range" :=by rfl) (hs:starEach [a,b] X.env=[(false,eval a X.env),(false,eval b X.env)]:=by rfl) (hs2:starEach [b] X.env=[(false,eval b X.env)]:=by rfl) :
  Ce X E tg (.Call (.Name "range" p) [a,b] [] pos) (qI fr):=PI.mono (zi hg hm ha hs hs2) fun σ H R q=>by
 obtain ⟨O,P,δ,r,rs,e,q⟩:=q
 rcases az e with ⟨xs,e1,e2⟩|⟨cx,e1,e2⟩
 ·refine ⟨O,P,δ,.ok xs,rs,e1,fun vs H1 s1 rx=>?_⟩
  split at e2
  ·split at e2
   ·rename_i h
    cases e2
    cases rx with
    |cons r1 rr=>
     cases rr with
     |cons r2 rr=>
      cases rr
      cases r1
      cases r2
      exact ⟨_,_,rfl,h,q _ H1 s1 (ux _ _)⟩
   ·cases e2
  ·cases e2
 ·subst e2
  exact ⟨O,P,δ,.error cx,rs,e1,q⟩
end
noncomputable def Ju (G:DS->M Out) (o:Out):M Out:=match o with
 |.nx δ=>G δ
 |.ct δ=>G δ
 |.bk δ=>rt (.nx δ)
 |.rt x=>rt (.rt x)
@[simp] theorem lq (G:DS->M Out) (δ:DS):Ju G (.nx δ)=G δ:=rfl
noncomputable def du (sf:D->DS->Option DS) (B:DS->M Out):List D->DS->M Out
 |[],δ=>rt (.nx δ)
 |d::r,δ=>bd (op (sf d δ)) fun δ1=>bd (B δ1) (Ju (du sf B r))
noncomputable def dZ (fi:DS->M (List D)) (sf:D->DS->Option DS) (B:DS->M Out) (δ:DS):M Out:=bd (fi δ) fun xs=>du sf B xs δ
section
variable {X:Cx} {E:XK} {tg iter:Expr} {body:List Stmt} {fi:DS->M (List D)} {g:TG} {sf:D->DS->Option DS} {B:DS->M Out} {pos:Pos}
theorem eV (hp:PassesOwn (model X.prog X.w) X.A X.env X.xe) (hc:X.calm=true) (hi:Ce X E tg iter fi) (hg:PG X tg g) (ht:EG g sf) (hb:y0 X E body B)
  (hs:∀x,foldedSetIterable iter X.env x=pure x:=by intro _; rfl):yc X E (.For tg iter body [] pos) (dZ fi sf B):=PS.mono (wx hp hc hi hg hb hs) fun T σ H q=>by
 obtain ⟨O,P,δ,r,rs,e,q⟩:=q
 rcases az e with ⟨xs,e1,e2⟩|⟨cx,e1,e2⟩
 ·refine ⟨O,P,δ,.ok xs,rs,e1,fun J H1 s1 it=>?_⟩
  refine ⟨fun i m σ' H'=>m=xs.length-i/\i<=xs.length/\∃P' δ',Kp P H1 P' H'/\RS O P' H' σ' δ'/\du sf B (xs.drop i) δ'=some r,⟨xs.length,0x4,Nat.zero_le _,P,δ,.refl,rs.same s1,e2⟩,?_⟩
  rintro i m σ' H' ⟨rfl,hi,P',δ',k,rs',el⟩
  have q':=q.on ((Kp.same s1).trans k)
  by_cases hlt:i<xs.length
  ·obtain ⟨go,yl⟩:=(it i P' H' k).1 xs[i] (by simp [hlt])
   refine .inr ⟨go,fun σ2 H2=>∃P2 δ2,Kp P H1 P2 H2/\RS O P2 H2 σ2 δ2/\du sf B (xs.drop (i+1)) δ2=some r,fun σ2 H2 ⟨P2,δ2,h1,h2,h3⟩=>⟨xs.length-(i+1),0x1,rfl,hlt,P2,δ2,h1,h2,h3⟩,fun x H2 hy=>?_⟩
   obtain ⟨rfl,rx⟩:=yl x H2 hy
   rw [List.drop_eq_getElem_cons hlt] at el
   obtain ⟨δ1,e3,e4⟩:=bt el
   refine ht O P' H2 σ' δ' δ1 _ x _ rs' rx e3 fun σ1 rs1=>?_
   rcases az e4 with ⟨o,e5,e6⟩|⟨cx,e5,e6⟩
   ·refine ⟨O,P',δ1,.ok o,rs1,e5,?_⟩
    cases o with
    |nx δ2=>exact fun σ2 H3 P2 k2 rs2=>⟨P2,δ2,k.trans k2,rs2,e6⟩
    |ct δ2=>exact fun σ2 H3 P2 k2 rs2=>⟨P2,δ2,k.trans k2,rs2,e6⟩
    |bk δ2=>cases e6; exact q'
    |rt y=>cases e6; exact q'
   ·subst e6
    exact ⟨O,P',δ1,.error cx,rs1,e5,q'⟩
  ·have hin:i=xs.length:=by lia
   subst hin
   rw [List.drop_length] at el
   cases el
   exact .inl ⟨(it _ P' H' k).2 (J5 _),q' σ' H' P' .refl rs'⟩
 ·subst e2
  exact ⟨O,P,δ,.error cx,rs,e1,fun dx H' s=>q dx H' P (.same s)⟩
end
noncomputable def cT (k:Nat) (js:List Nat) (δ:DS):DS:=List.replicate k none++js.map fun j=>(δ[j]?).join
theorem sN {α:Type} {o:Option (Option α)} {x:α} (h:o.join=some x):o=some (some x):=by
 cases o with
 |none=>cases h
 |some z=>simp only [Option.join] at h; rw [<-h]; rfl
theorem RS.block {O P:List Addr} {H:Hp} {σ:St} {δ:DS} (r:RS O P H σ δ) (k:Nat) (js:List Nat) (hj:js.Nodup):RS O P H (jt k js σ) (cT k js δ):=by
 have at0:∀(i:Nat) (x:DV),(cT k js δ)[i]?=some (some x)->k<=i/\∃j,js[i-k]?=some j/\δ[j]?=some (some x):=fun i x h=>by
  unfold cT at h
  by_cases hi:i<k
  ·rw [List.getElem?_append_left (by simpa using hi),List.getElem?_replicate] at h
   split at h <;> cases h
  ·rw [List.getElem?_append_right (by simpa using hi),List.length_replicate,List.getElem?_map] at h
   cases e:js[i-k]? with
   |none=>rw [e] at h; cases h
   |some j=>
    rw [e] at h
    exact ⟨0x1,j,rfl,sN (Option.some.inj h)⟩
 have sg:∀(i j:Nat),k<=i->js[i-k]?=some j->(jt k js σ)[i]?=some ((σ[j]?).join):=fun i j hi e=>by
  unfold jt
  rw [List.getElem?_append_right (by simpa using hi),List.length_replicate,List.getElem?_map,e]
  rfl
 refine ⟨by unfold jt cT; simp,r.dom,r.apart,fun i x h=>?_,fun i j x y v w c h1 h2 h3 h4 o1 o2=>?_⟩
 ·obtain ⟨hi,j,ej,ed⟩:=at0 i x h
  obtain ⟨v,e1,e2,e3⟩:=r.at' j x ed
  exact ⟨v,by rw [sg i j hi ej,e1]; rfl,e2,e3⟩
 ·obtain ⟨hi,i',ei,di⟩:=at0 i _ h1
  obtain ⟨hj',j',ej,dj⟩:=at0 j _ h2
  rw [sg i i' hi ei] at h3
  rw [sg j j' hj' ej] at h4
  have:=r.one i' j' x y v w c di dj (sN (Option.some.inj h3)) (sN (Option.some.inj h4)) o1 o2
  subst this
  obtain ⟨l1,g1⟩:=List.getElem?_eq_some_iff.mp ei
  obtain ⟨l2,g2⟩:=List.getElem?_eq_some_iff.mp ej
  have:=(List.getElem_inj hj).mp (g1.trans g2.symm)
  lia
noncomputable def cO (sf:D->DS->Option DS) (gc:DS->M Bool) (fe:DS->M DV) (δ:DS):List D->Option (List D)
 |[]=>some []
 |d::r=>match sf d δ with
  |none=>none
  |some δ1=>match gc δ1 with
   |some (.ok false)=>cO sf gc fe δ r
   |some (.ok true)=>match fe δ1 with
    |some (.ok y)=>match vx y,cO sf gc fe δ r with
     |some z,some zs=>some (z::zs)
     |_,_=>none
    |_=>none
   |_=>none
noncomputable def bY (_:DS):M Bool:=rt true
noncomputable def bb (k:Nat) (js:List Nat) (fi:DS->M (List D)) (sf:D->DS->Option DS) (gc:DS->M Bool) (fe:DS->M DV) (δ:DS):M DV:=bd (fi δ) fun xs=>if xs.length<=1000000 then bd (op (cO sf gc fe (cT k js δ) xs)) fun ys=>rt (.new ys) else none
theorem eX {X:Cx}:PF X [] (BC E0 bY):=fun pins s σ H Q I q=>FX pins s σ H Q I (by
 obtain ⟨O,P,δ,r,rs,e,q⟩:=q
 cases e
 exact q H (aD.refl H))
theorem mY {sf:D->DS->Option DS} {gc:DS->M Bool} {fe:DS->M DV} {δ:DS}:∀{xs ys:List D},cO sf gc fe δ xs=some ys->ys.length<=xs.length
 |[],ys,h=>by cases h; simp
 |d::r,ys,h=>by
  unfold cO at h
  split at h
  ·cases h
  ·split at h
   ·have:=mY (xs:=r) h
    simp; lia
   ·split at h
    ·split at h
     ·rename_i z zs e1 e2
      cases h
      have:=mY (xs:=r) e2
      simp; lia
     ·cases h
    ·cases h
   ·cases h
section
variable {X:Cx} {E:XK} {k:Nat} {js:List Nat} {N':List Str} {scope:Scope} {elt tg iter:Expr} {ifs:List Expr} {pos:Pos} {fi:DS->M (List D)} {g:TG} {sf:D->DS->Option DS} {gc:DS->M Bool} {fe:DS->M DV}
theorem rM (hj:js.Nodup) (ht:EG g sf) (hsub:∀δ d δ1,sf d (cT k js δ)=some δ1->Sub (cT k js δ) δ1) {σ:St} {H:Hp} {Q:VK} (q:tE E (bb k js fi sf gc fe) σ H Q):yd (tI E fi) k js g (BC E0 gc) (tE E0 fe) σ H Q:=by
 obtain ⟨O,P,δ,r,rs,e,q⟩:=q
 rcases az e with ⟨xs,e1,e2⟩|⟨cx,e1,e2⟩
 ·refine ⟨O,P,δ,.ok xs,rs,e1,fun J H1 s1 it=>?_⟩
  split at e2
  ·rename_i hz
   obtain ⟨ys,e3,e4⟩:=bt e2
   cases e4
   have hlen:=mY e3
   refine ⟨fun i m σ' H' vs=>m=xs.length-i/\i<=xs.length/\aD H1 H'/\RS O P H' σ' (cT k js δ)/\∃ds es,RpL (P++O) H' ds vs/\cO sf gc fe (cT k js δ) (xs.drop i)=some es/\ys=ds++es,
    ⟨xs.length,0x4,Nat.zero_le _,aD.refl H1,(rs.same s1).block k js hj,[],ys,.nil,e3,rfl⟩,?_⟩
   rintro i m σ' H' vs ⟨rfl,hi,sH,rs',ds,es,l,ec,ey⟩
   have hvl:vs.length<=ys.length:=by rw [ey,<-l.length]; simp
   by_cases hlt:i<xs.length
   ·refine .inr ?_
    rw [List.drop_eq_getElem_cons hlt] at ec
    unfold cO at ec
    obtain ⟨go,yl⟩:=(it i P H' (.same sH)).1 xs[i] (by simp [hlt])
    split at ec
    ·cases ec
    ·rename_i δ1 e5
     refine ⟨go,Nat.lt_of_le_of_lt (Nat.le_trans hvl (Nat.le_trans hlen hz)) (by rw [sizeLine_eq]; decide),fun x H2 hy=>?_⟩
     obtain ⟨rfl,rx⟩:=yl x H2 hy
     refine ht O P H2 σ' _ δ1 _ x _ rs' rx e5 fun σ1 rs1=>?_
     have hsb:=hsub δ _ δ1 e5
     split at ec
     ·rename_i e6
      refine ⟨O,P,δ1,.ok false,rs1,e6,fun H3 s3=>?_⟩
      exact uM ⟨xs.length-(i+1),0x1,rfl,hlt,sH.trans s3,(rs1.same s3).forget hsb,ds,es,l.kp (.same s3),ec,ey⟩
     ·rename_i e6
      refine ⟨O,P,δ1,.ok true,rs1,e6,fun H3 s3=>?_⟩
      refine vb ?_
      split at ec
      ·rename_i y e7
       split at ec
       ·rename_i z zs e8 e9
        cases ec
        refine ⟨O,P,δ1,.ok y,rs1.same s3,e7,fun v H4 s4 ry=>?_⟩
        refine ⟨xs.length-(i+1),0x1,rfl,hlt,sH.trans (s3.trans s4),(rs1.same (s3.trans s4)).forget hsb,ds++[z],zs,(l.kp (.same (s3.trans s4))).append (.cons (ry.data (rs1.same s3).dom e8) .nil),e9,?_⟩
        rw [ey,List.append_assoc]; rfl
       ·cases ec
      ·cases ec
     ·cases ec
   ·have hin:i=xs.length:=by lia
    subst hin
    rw [List.drop_length] at ec
    cases ec
    refine .inl ⟨(it _ P H' (.same sH)).2 (J5 _),Nat.le_trans hvl (eW (Nat.le_trans hlen hz)),fun p hp=>?_⟩
    rw [ey,List.append_nil] at q
    exact q _ _ ((s1.trans sH).trans (a9 hp)) (RE.made (s1.trans sH) hp l)
  ·cases e2
 ·subst e2
  exact ⟨O,P,δ,.error cx,rs,e1,q⟩
theorem cA (S:CompFit X k js N' scope) (hj:js.Nodup) (hc:X.calm=true) (hi:Ce X E tg iter fi) (ht:EG g sf) (hsub:∀δ d δ1,sf d (cT k js δ)=some δ1->Sub (cT k js δ) δ1)
  (hg:∀C s₂ H₂ fp,PG (aT X N' scope C s₂ H₂ fp) tg g) (hf:∀C s₂ H₂ fp,PF (aT X N' scope C s₂ H₂ fp) ifs (BC E0 gc)) (he:∀C s₂ H₂ fp,PX (aT X N' scope C s₂ H₂ fp) E0 elt fe)
  (hs:∀x,foldedSetIterable iter X.env x=pure x:=by intro _; rfl):PX X E (.ListComp elt [⟨tg,iter,ifs,0⟩] scope pos) (bb k js fi sf gc fe):=
 PE.mono (CH S hc hi hg hf he hs) fun σ H Q q=>rM hj ht hsub q
end
noncomputable def nc (N:List Str) (xs:List DV):DS:=xs.map some++List.replicate (N.length-xs.length) none
noncomputable def res:DV->DV
 |.own xs=>.new xs
 |.tpo p xs q=>.nwt p xs q
 |x=>x
@[simp] theorem Bn (x:D):res (.d x)=.d x:=rfl
@[simp] theorem sG (xs:List D):res (.own xs)=.new xs:=rfl
@[simp] theorem sd (xs:List D):res (.new xs)=.new xs:=rfl
@[simp] theorem vG (C:Addr) (fs:List (Str×D)):res (.ob C fs)=.ob C fs:=rfl
noncomputable def zk:Out->M DV
 |.rt x=>rt (res x)
 |.nx _=>rt (.d .none)
 |_=>none
@[simp] theorem tu (x:DV):zk (.rt x)=rt (res x):=rfl
@[simp] theorem tU (δ:DS):zk (.nx δ)=rt (.d .none):=rfl
noncomputable def eG (N:List Str) (F:DS->M Out) (xs:List DV):M DV:=bd (F (nc N xs)) zk
theorem RS.start {N:List Str} {O:List Addr} {H:Hp} {xs:List DV} {vs:List V} (dom:∀a,a∈O->∃o,H a=some o) (r:lA O [] H H xs vs):RS O [] H (L2.start N vs) (nc N xs):=by
 have hl:xs.length=vs.length:=Paired.length r
 have at0:∀(i:Nat) (x:DV),(nc N xs)[i]?=some (some x)->xs[i]?=some x:=fun i x h=>by
  unfold nc at h
  by_cases hi:i<xs.length
  ·rw [List.getElem?_append_left (by simpa using hi),List.getElem?_map] at h
   cases e:xs[i]? with
   |none=>rw [e] at h; cases h
   |some y=>rw [e] at h; cases h; rfl
  ·rw [List.getElem?_append_right (by simpa using hi),List.getElem?_replicate] at h
   split at h <;> cases h
 have gets:∀{xs:List DV} {vs:List V},lA O [] H H xs vs->∀(i:Nat) (x:DV),xs[i]?=some x->∃v,vs[i]?=some v/\RE O [] H H x v:=by
  intro xs vs r
  induction r with
  |nil=>intro i x h; simp at h
  |cons r1 _ ih=>
   intro i x h
   cases i with
   |zero=>simp at h; subst h; exact ⟨_,rfl,r1⟩
   |succ i=>simpa using ih i x (by simpa using h)
 have sv:∀(i:Nat) (v:V),vs[i]?=some v->(L2.start N vs)[i]?=some (some v):=fun i v h=>by
  have hi:i<vs.length:=(List.getElem?_eq_some_iff.mp h).1
  unfold L2.start
  rw [List.getElem?_append_left (by simpa using hi),List.getElem?_map,h]; rfl
 refine ⟨by unfold L2.start nc; simp [hl],fun a ha=>dom a ha,fun a ha=>(by cases ha),fun i x h=>?_,fun i j y z v w c h1 h2 h3 h4 o1 o2=>?_⟩
 ·obtain ⟨v,e1,e2⟩:=gets r i x (at0 i x h)
  refine ⟨v,sv i v e1,fun ys hx=>?_,e2⟩
  subst hx
  obtain ⟨a,us,_,hn,ha,_⟩:=e2
  rw [hn] at ha; cases ha
 ·obtain ⟨v',e1,e2⟩:=gets r i _ (at0 i _ h1)
  rw [sv i v' e1] at h3
  cases h3
  cases o1.new e2
theorem RE.out {O P':List Addr} {H H1 H':Hp} {x:DV} {v:V} (k:Kp [] H P' H1) (s:aD H1 H') (r:RE O P' H1 H' x v):aD H H'/\RE O [] H H' (res x) v:=by
 have sH:aD H H':=fun b o e=>s b o (k.keep b o 0x4 e)
 have sub:∀a,a∈([]:List Addr)++O->a∈P'++O:=fun a ha=>J2 _ ha
 refine ⟨sH,?_⟩
 cases x with
 |d x=>exact Rp.kp (.sub sub) r
 |ob C fs=>exact Co.kp (.sub sub) r
 |fz kvs=>exact xZ.kp (.sub sub) r
 |ex q=>exact r
 |tpo p xs q=>
  obtain ⟨t,a,ps,vs,qs,e,hz,ht,hP,ha,l1,l2,l3⟩:=r
  have sb:∀b,b∈a::([]++O)->b∈P'++O:=fun b hb=>by
   rcases List.mem_cons.mp hb with z|z
   ·exact J3 _ (z▸hP)
   ·exact sub b z
  refine ⟨t,a,ps,vs,qs,e,fun h=>hz (sb t h),ht,?_,ha,l1.kp (.sub sb),l2.kp (.sub sb),l3.kp (.sub sb)⟩
  rcases k.new a hP with z|z
  ·cases z
  ·exact z
 |nwt p xs q=>
  obtain ⟨t,a,ps,vs,qs,e,hz,ht,hn,ha,l1,l2,l3⟩:=r
  have sb:∀b,b∈a::([]++O)->b∈a::(P'++O):=fun b hb=>by
   rcases List.mem_cons.mp hb with z|z
   ·exact z▸JZ
   ·exact JY _ (sub b z)
  refine ⟨t,a,ps,vs,qs,e,fun h=>hz (sb t h),ht,?_,ha,l1.kp (.sub sb),l2.kp (.sub sb),l3.kp (.sub sb)⟩
  cases q:H a with
  |none=>rfl
  |some o=>rw [k.keep a o 0x4 q] at hn; cases hn
 |own xs=>
  obtain ⟨a,vs,e,hP,ha,l⟩:=r
  refine ⟨a,vs,e,?_,ha,l.kp (.sub fun b hb=>?_)⟩
  ·rcases k.new a hP with z|z
   ·cases z
   ·exact z
  ·rcases List.mem_cons.mp hb with z|z
   ·exact J3 _ (z▸hP)
   ·exact sub b z
 |new xs=>
  obtain ⟨a,vs,e,hn,ha,l⟩:=r
  refine ⟨a,vs,e,?_,ha,l.kp (.sub fun b hb=>?_)⟩
  ·cases q:H a with
   |none=>rfl
   |some o=>rw [k.keep a o 0x4 q] at hn; cases hn
  ·rcases List.mem_cons.mp hb with z|z
   ·exact z▸JZ
   ·exact JY _ (sub b z)
 |scr K ns=>
  obtain ⟨a,e,hz⟩:=r
  exact ⟨a,e,hz.imp (fun z=>⟨fun h=>z.1 (sub a h),z.2⟩) fun z=>z⟩
section
variable {P:Program} {w:World} {K:Kd} {mg:Str->Option Value} {base:Heap}
theorem nY {x qual:Str} {st:Stmt} {f:Addr} {fd:FuncData} {N ps:List Str} {k n:Nat} {F:DS->M Out} (Fu:Fun K x qual st f fd) (S:FnScope N ps (ao st)) (hn:ps.length=n)
  (body:∀(cdv:Value) (A:Around) (outer:List Env) (s:Shared) (H:Hp) (E:XK),Room k (A.deeper (envOfC qual (ao st) s.heap.objs.size f cdv)) ->
   y0 (fu so P w K mg base N qual (ao st) f cdv A outer s H E).nox E0 (eS st) F):FnOk P w K mg base so (k+1) f fd ps (Eb n (eG N F)):=by
 refine Fu.ok S (fun vs H Q E h=>h.1.trans hn.symm) fun cdv A outer s H vs Q E hr hsp=>⟨_,body cdv A outer s H E hr,?_⟩
 obtain ⟨_,O,xs,x,dom,rx,e,q⟩:=hsp
 rcases az e with ⟨o,e1,e2⟩|⟨c,_,e2⟩
 ·refine ⟨O,[],nc N xs,.ok o,RS.start dom rx,e1,?_⟩
  cases o with
  |rt y=>
   cases e2
   intro v H1 H' P' k' s' _ _ ry
   obtain ⟨sH,ry'⟩:=ry.out k' s'
   exact q v H' sH ry'
  |nx δ=>
   cases e2
   intro σ' H' P' k' _
   exact q .non H' (fun b o e=>k'.keep b o 0x4 e) .none
  |bk δ=>cases e2
  |ct δ=>cases e2
 ·cases e2
end
section
variable {X:Cx} {E:XK} {o e:Expr} {fo fe:DS->M DV}
noncomputable def oP:List D->Option (List Bool)
 |[]=>some []
 |.bool b::r=>(oP r).map (b::·)
 |_::_=>none
theorem rf:∀{xs:List D} {bs:List Bool},oP xs=some bs->xs=bs.map PyData.bool
 |[],bs,h=>by cases h; rfl
 |x::r,bs,h=>by
  cases x with
  |bool b=>
   unfold oP at h
   cases e:oP r with
   |none=>rw [e] at h; cases h
   |some cs=>rw [e] at h; cases h; rw [rf e]; rfl
  |_=>cases h
theorem yF (bs:List Bool):oP (bs.map PyData.bool)=some bs:=by
 induction bs with
 |nil=>rfl
 |cons b r ih=>rw [List.map_cons,oP,ih]; rfl
noncomputable def qz (xs:List DV):M DV:=match xs with
 |[x]=>bd (op (mj x)) fun ys=>bd (op (oP ys)) fun bs=>rt (.d (.bool (bs.all id)))
 |_=>none
theorem pO {Z:List Addr} {H:Hp}:∀{bs:List Bool} {vs:List V} {us:List Value},RpL Z H (bs.map PyData.bool) vs->aQ vs us->us=bs.map Value.bool
 |[],_,_,.nil,.nil=>rfl
 |b::r,_,_,.cons p l,.cons q t=>by
  cases p
  cases q
  rw [List.map_cons,pO l t]
theorem yH (bs:List Bool):((List.range bs.length).all fun i=>(bs[i]?).getD true)=bs.all id:=by
 induction bs with
 |nil=>rfl
 |cons b r ih=>
  rw [List.length_cons,List.range_succ_eq_map,List.all_cons,List.all_map,List.all_cons]
  have:(r.all id)=((List.range r.length).all fun i=>(r[i]?).getD true):=ih.symm
  rw [this]
  congr 1
theorem kN (hc:X.calm=true):dS X E (.builtin "all") qz:=fun pins s σ O P H₀ H xs vs us r Q I hd hs rx rv e q=>by
 unfold qz at e
 split at e
 ·obtain ⟨ys,e1,e2⟩:=bt e
  obtain ⟨bs,e3,e4⟩:=bt e2
  cases e4
  cases rx with
  |cons r1 rr=>
   cases rr
   obtain ⟨a,ws,rfl,ha,l⟩:=r1.list e1
   cases rv with
   |cons q1 q2=>
    cases q2
    cases q1
    have hys:=rf e3
    subst hys
    obtain ⟨its,ri,pl,hz⟩:=I.list (gg.of ha)
    have hits:=pO l ri
    have hlt:a<s.heap.objs.size:=by obtain ⟨_,e',_⟩:=pl.isList; exact J8 e'
    have hlist:=pl.isList
    refine call_all_walk (wpAny_pyIter_list hlist ?_)
    refine ⟨s.heap.objs.size,[s.heap.objs.size,a],[s.heap.objs.size],its.toArray.size,_,_,fun i=>(bs[i]?).getD true,rfl,Walks.list (A:=X.A.in1) (I.ok.hd hc) _ a (Nat.ne_of_lt hlt) its.toArray,
     ⟨⟨_,Heap.get?_push_size _ rfl,rfl,rfl⟩,hlist.push _⟩,fun i v s' Q' E' hP hQ=>?_,fun h' tk hk=>?_⟩
    ·have hv:(bs[i]?).map Value.bool=some v:=by
      have hP':its.toArray[i]?=some v:=hP
      rw [<-hP',hits]; simp
     cases eb:bs[i]? with
     |none=>rw [eb] at hv; cases hv
     |some b=>
      rw [eb] at hv
      cases hv
      simp only [eb,Option.getD_some] at hQ
      exact wpAny_truthy_bool hQ
    ·have hn:its.toArray.size=bs.length:=by rw [hits]; simp
     rw [hn,yH]
     refine ⟨.bl _,H,I.kept (t':=tk) fun b ob eb=>hk b ob (fun hm=>?_) (J0 _ eb),rfl,q _ H (aD.refl H) (.bool _)⟩
     rw [List.mem_singleton.mp hm] at eb
     exact Nat.lt_irrefl _ (J8 eb)
 ·cases e
noncomputable def sr (x y:DV):M DV:=match mj x,oM y with
 |some xs,some d=>if d.depth<=60 then rt (.d (.int (xs.countP fun z=>PyData.eqv z d))) else none
 |_,_=>none
noncomputable def iO (fo fe:DS->M DV) (δ:DS):M DV:=bd (fo δ) fun x=>bd (op (mj x)) fun _=>bd (fe δ) fun y=>sr x y
noncomputable def IJ (E:XK) (x:V) (vs:List V) (H:Hp) (Q:VK):Prop:=∃O P H₀ dx dy v r,vs=[v]/\RE O P H₀ H dx x/\RE O P H₀ H dy v/\sr dx dy=some r/\Fn E O P H₀ H Q r
theorem AF (hu:X.A.units+64<cLine):Je X "list.count" (IJ E):=fun pins s σ H x xs v us Q I rx rs h=>by
 obtain ⟨O,P,H₀,dx,dy,w,r,rfl,r1,r2,e,q⟩:=h
 obtain ⟨u,rfl,ru⟩:=qf rs
 unfold sr at e
 split at e
 ·rename_i ys d h1 h2
  split at e
  ·rename_i hdp
   cases e
   obtain ⟨a,ws,rfl,ha,l⟩:=r1.list h1
   cases rx
   obtain ⟨⟨as,ra⟩,la⟩:=r2.reads I ru h2
   obtain ⟨its,ri,pl,hz⟩:=I.list (gg.of ha)
   obtain ⟨bs,rb⟩:=RpL.reads I l ri
   obtain ⟨⟨cls,dd,data,sl⟩,ho,hc,n,hd⟩:=pl.isList
   simp only at hc hd
   subst hc hd
   refine call_meets PySem.F.slot_list_count ⟨_,ho,rfl⟩ PySem.F.entry_list_count (PySem.F.args_list_count_2 _ _) (SeqAt.list_countAt a its.toArray n dd sl u fun y=>PyData.eqv (SeqAt.readOf s.heap y) d)
    ⟨ho,SeqAt.items_eqAt (vs:=its.toArray) rb ra l.lay la (by have:=Nat.min_le_right (PyData.depthAll ys) d.depth; lia),?_⟩
   have hcount:its.toArray.toList.countP (fun y=>PyData.eqv (SeqAt.readOf s.heap y) d)=ys.countP fun z=>PyData.eqv z d:=by
    rw [<-SeqAt.readsAll_map ys _ _ l.lay rb,List.countP_map]; rfl
   rw [hcount]
   exact ⟨.int _,H,I.tok _,⟨_,rfl⟩,q _ H (aD.refl H) (.int _)⟩
  ·cases e
 ·cases e
theorem jD {apos cpos:Pos} (hu:X.A.units+64<cLine) (ho:PX X E o fo) (he:PX X E e fe)
  (hbase:attributeBase o "count" X.env (eval o X.env)=eval o X.env:=by rfl)
  (hfew:((backTo cpos (starEach [e] X.env)).all (fun x=>!x.1)&&(backToKw cpos (keywordEach [] X.env)).all (fun x=>x.1.isSome)
   && decide ([e].length+([]:List Keyword).length+(if ([]:List Keyword).isEmpty then 0 else 1)<30))=true:=by rfl)
  (hline:(apos.endLine==cpos.line)=true:=by rfl) (hs:starEach [e] X.env=(false,eval e X.env)::starEach [] X.env:=by rfl) (hplain:(backTo cpos (starEach [] X.env)).any (·.1)=false:=by rfl) :
  PX X E (.Call (.Attribute o "count" apos) [e] [] cpos) (iO fo fe):=
 PE.mono (uv PySem.F.plainAttrs_list PySem.F.slot_list_count PySem.F.type_list_count (AF (E:=E) hu) ho (j8 he kR hs) hbase hfew hline hs hplain) fun σ H Q q=>
  lE (g:=fun δ x=>bd (op (mj x)) fun _=>bd (fe δ) fun y=>sr x y) q fun O P δ x r v H1 rs rs1 s1 rx e q=>by
   obtain ⟨ys,h1,e⟩:=bt e
   obtain ⟨a,ws,rfl,ha,_⟩:=rx.list h1
   refine ⟨.inl ⟨rfl,_,gg.of ha⟩,?_⟩
   rcases az e with ⟨y,e1,e2⟩|⟨c,e1,e2⟩
   ·exact ⟨O,P,δ,.ok y,rs1,e1,fun u H2 s2 ry=>⟨O,P,H,x,y,u,r,rfl,rx.on s2,ry.from s1,e2,q.on s2⟩⟩
   ·subst e2
    exact ⟨O,P,δ,.error c,rs1,e1,q⟩
end
open PySem.W (KasT kas_asc kas_desc kas_tail3 kas_descPart kas_count kas_place kas_bin kas_sort kas_rev)
noncomputable abbrev ll:=HT.lexLt
theorem fH:∀a:List Int,ll a a=false
 |[]=>rfl
 |x::r=>by
  show HT.lexLt (x::r) (x::r)=false
  rw [HT.lexLt_cons,if_pos rfl]
  exact fH r
theorem mF:∀{a b:List Int},ll a b=false->ll b a=false->a=b
 |[],[],_,_=>rfl
 |[],_::_,h,_=>by cases h
 |_::_,[],_,h=>by cases h
 |x::xs,y::ys,h1,h2=>by
  have e1:HT.lexLt (x::xs) (y::ys)=false:=h1
  have e2:HT.lexLt (y::ys) (x::xs)=false:=h2
  rw [HT.lexLt_cons] at e1 e2
  by_cases h:x=y
  ·subst h
   rw [if_pos rfl] at e1 e2
   rw [mF e1 e2]
  ·rw [if_neg h] at e1
   rw [if_neg (Ne.symm h)] at e2
   have:=of_decide_eq_false e1
   have:=of_decide_eq_false e2
   lia
theorem lH:∀{a b c:List Int},ll a b=true->ll b c=true->ll a c=true
 |[],[],_,h,_=>by cases h
 |[],_::_,[],_,h=>by cases h
 |[],_::_,_::_,_,_=>rfl
 |_::_,[],_,h,_=>by cases h
 |_::_,_::_,[],_,h=>by cases h
 |x::xs,y::ys,z::zs,h1,h2=>by
  have e1:HT.lexLt (x::xs) (y::ys)=true:=h1
  have e2:HT.lexLt (y::ys) (z::zs)=true:=h2
  show HT.lexLt (x::xs) (z::zs)=true
  rw [HT.lexLt_cons] at e1 e2 ⊢
  by_cases h:x=y
  ·subst h
   rw [if_pos rfl] at e1
   by_cases h':x=z
   ·subst h'
    rw [if_pos rfl] at e2 ⊢
    exact lH e1 e2
   ·rw [if_neg h'] at e2 ⊢
    exact e2
  ·rw [if_neg h] at e1
   have l1:=of_decide_eq_true e1
   by_cases h':y=z
   ·subst h'
    rw [if_neg h]; exact e1
   ·rw [if_neg h'] at e2
    have l2:=of_decide_eq_true e2
    rw [if_neg 0x1]
    exact decide_eq_true 0x1
theorem jc {a b:List Int} (h:ll a b=true):ll b a=false:=by
 cases e:ll b a with
 |false=>rfl
 |true=>
  have:=lH h e
  rw [fH] at this; cases this
theorem jS {a b c:List Int} (h1:ll b a=false) (h2:ll c b=false):ll c a=false:=by
 cases e:ll c a with
 |false=>rfl
 |true=>
  cases e2:ll a b with
  |true=>rw [lH e e2] at h2; cases h2
  |false=>
   have:=mF e2 h1
   subst this
   rw [e] at h2; cases h2
theorem Bs {a b c:List Int} (h1:ll a b=true) (h2:ll c b=false):ll a c=true:=by
 cases e2:ll b c with
 |true=>exact lH h1 e2
 |false=>
  have:=mF e2 h2
  subst this; exact h1
noncomputable def bQ {α:Type} (c:Nat->Nat->Bool):KasT α->α
 |.ret a=>a
 |.ask i j k=>bQ c (k (c i j))
theorem gz {α β:Type} {c:Nat->Nat->Bool} {f:α->KasT β}:∀t:KasT α,bQ c (t.bind f)=bQ c (f (bQ c t))
 |.ret a=>rfl
 |.ask i j k=>gz (k (c i j))
section
variable (key:Nat->List Int)
noncomputable def cK (i j:Nat):Bool:=ll (key i) (key j)
noncomputable def Bk (p:Array Nat) (k:Nat):List Int:=key (p.getD k 0)
noncomputable def Up (p:Array Nat) (m:Nat):Prop:=∀i j,i<=j->j<m->ll (Bk key p j) (Bk key p i)=false
noncomputable def Dn (p:Array Nat) (m:Nat):Prop:=∀i j,i<=j->j<m->ll (Bk key p i) (Bk key p j)=false
variable {key}
theorem Up.step {p:Array Nat} {n:Nat} (h1:1<=n) (h:Up key p n) (e:ll (Bk key p n) (Bk key p (n-1))=false):Up key p (n+1):=fun i j hij hj=>by
 by_cases hjn:j=n
 ·subst hjn
  by_cases hi:i=j
  ·subst hi; exact fH _
  ·exact jS (h i (j-1) 0x1 0x1) e
 ·exact h i j hij 0x1
theorem Dn.step {p:Array Nat} {n:Nat} (h1:1<=n) (h:Dn key p n) (e:ll (Bk key p (n-1)) (Bk key p n)=false):Dn key p (n+1):=fun i j hij hj=>by
 by_cases hjn:j=n
 ·subst hjn
  by_cases hi:i=j
  ·subst hi; exact fH _
  ·exact jS e (h i (j-1) 0x1 0x1)
 ·exact h i j hij 0x1
theorem w6 {p:Array Nat}:∀(f n:Nat),1<=n->Up key p n->n<=bQ (cK key) (kas_asc p f n)/\bQ (cK key) (kas_asc p f n)<=n+f/\Up key p (bQ (cK key) (kas_asc p f n)) /\
  (bQ (cK key) (kas_asc p f n)<n+f->ll (Bk key p (bQ (cK key) (kas_asc p f n))) (Bk key p (bQ (cK key) (kas_asc p f n)-1))=true)
 |0,n,h1,h=>⟨J5 _,J5 _,h,fun q=>absurd q (Nat.lt_irrefl _)⟩
 |f+1,n,h1,h=>by
  have e:bQ (cK key) (kas_asc p (f+1) n)=bQ (cK key) (if ll (Bk key p n) (Bk key p (n-1))=true then .ret n else kas_asc p f (n+1)):=rfl
  rw [e]
  cases c:ll (Bk key p n) (Bk key p (n-1)) with
  |true=>exact ⟨J5 _,Nat.le_add_right _ _,h,fun _=>c⟩
  |false=>
   simp only [Bool.false_eq_true,if_false]
   obtain ⟨a1,a2,a3,a4⟩:=w6 f (n+1) 0x1 (h.step h1 c)
   exact ⟨0x1,0x1,a3,fun q=>a4 0x1⟩
theorem wz {p:Array Nat} {i j:Nat} (hj:j<=p.size) (k:Nat):Bk key (kas_rev p i j) k=if i<=k/\k<j then Bk key p (i+j-1-k) else Bk key p k:=by
 unfold Bk kas_rev
 have e:=getElem?_mirror_all (xs:=p) (i:=i) hj k
 have g:∀(q:Array Nat) (m:Nat),q.getD m 0=(q[m]?).getD 0:=fun q m=>by simp [Array.getD_eq_getD_getElem?]
 rw [g,g,g,e]
 split <;> rfl
theorem gK {p:Array Nat} {i j:Nat}:(kas_rev p i j).size=p.size:=mirror_size _ _ _ _
theorem eM {p:Array Nat} {i j:Nat}:(kas_rev p i j).Perm p:=mirror_perm _ _ _ _
theorem vO {p:Array Nat} {i j:Nat} (hj:j<=p.size) (h:∀a b,i<=a->a<j->i<=b->b<j->Bk key p a=Bk key p b) (k:Nat):Bk key (kas_rev p i j) k=Bk key p k:=by
 rw [wz hj]
 split
 ·exact h _ _ 0x1 0x1 0x1 0x1
 ·rfl
theorem Dn.congr {p p':Array Nat} {m:Nat} (h:Dn key p m) (e:∀k,Bk key p' k=Bk key p k):Dn key p' m:=fun i j a b=>by rw [e,e]; exact h i j a b
theorem om:∀(f:Nat) (p:Array Nat) (n q:Nat),q+1<=n->n+f<=p.size->Dn key p n->(∀a b,n-(q+1)<=a->a<n->n-(q+1)<=b->b<n->Bk key p a=Bk key p b) ->
  let r:=bQ (cK key) (kas_desc f p n q)
  r.1.Perm p/\r.1.size=p.size/\n<=r.2.1/\r.2.1<=n+f/\r.2.2+1<=r.2.1/\Dn key r.1 r.2.1/\(∀a b,r.2.1-(r.2.2+1)<=a->a<r.2.1->r.2.1-(r.2.2+1)<=b->b<r.2.1->Bk key r.1 a=Bk key r.1 b)
 |0,p,n,q,h1,hz,h,he=>⟨Array.Perm.refl _,rfl,J5 _,J5 _,h1,h,he⟩
 |f+1,p,n,q,h1,hz,h,he=>by
  have e:bQ (cK key) (kas_desc (f+1) p n q)=bQ (cK key) (if ll (Bk key p n) (Bk key p (n-1))=true then (if q>0 then kas_desc f (kas_rev p (n-(q+1)) n) (n+1) 0 else kas_desc f p (n+1) 0)
   else .ask (p.getD (n-1) 0) (p.getD n 0) fun d=>if d=true then .ret (p,n,q) else kas_desc f p (n+1) (q+1)):=rfl
  intro r
  have er:r=bQ (cK key) (kas_desc (f+1) p n q):=rfl
  rw [e] at er
  cases c:ll (Bk key p n) (Bk key p (n-1)) with
  |true=>
   rw [c] at er
   simp only [if_true] at er
   by_cases hq:q>0
   ·rw [if_pos hq] at er
    have eq:=vO (key:=key) (p:=p) (i:=n-(q+1)) (j:=n) 0x1 he
    have hd:Dn key (kas_rev p (n-(q+1)) n) (n+1):=(h.step 0x1 (jc c)).congr eq
    obtain ⟨a1,a2,a3,a4,a5,a6,a7⟩:=om f (kas_rev p (n-(q+1)) n) (n+1) 0 0x1 (by rw [gK]; lia) hd (fun a b _ _ _ _=>by rw [show a=b by lia])
    rw [er]
    exact ⟨a1.trans eM,a2.trans gK,0x1,0x1,a5,a6,a7⟩
   ·rw [if_neg hq] at er
    obtain ⟨a1,a2,a3,a4,a5,a6,a7⟩:=om f p (n+1) 0 0x1 0x1 (h.step 0x1 (jc c)) (fun a b _ _ _ _=>by rw [show a=b by lia])
    rw [er]
    exact ⟨a1,a2,0x1,0x1,a5,a6,a7⟩
  |false=>
   rw [c] at er
   simp only [Bool.false_eq_true,if_false] at er
   have er2:r=bQ (cK key) (if ll (Bk key p (n-1)) (Bk key p n)=true then .ret (p,n,q) else kas_desc f p (n+1) (q+1)):=er
   cases c2:ll (Bk key p (n-1)) (Bk key p n) with
   |true=>
    rw [c2] at er2
    simp only [if_true] at er2
    rw [er2]
    exact ⟨Array.Perm.refl _,rfl,J5 _,Nat.le_add_right _ _,h1,h,he⟩
   |false=>
    rw [c2] at er2
    simp only [Bool.false_eq_true,if_false] at er2
    have hk:Bk key p (n-1)=Bk key p n:=mF c2 c
    have hee:∀a,n+1-(q+1+1)<=a->a<n+1->Bk key p a=Bk key p n:=fun a l1 l2=>by
     by_cases ha:a=n
     ·rw [ha]
     ·rw [<-hk]; exact he a (n-1) 0x1 0x1 0x1 0x1
    obtain ⟨a1,a2,a3,a4,a5,a6,a7⟩:=om f p (n+1) (q+1) 0x1 0x1 (h.step 0x1 c2) (fun a b l1 l2 l3 l4=>by rw [hee a l1 l2,hee b l3 l4])
    rw [er2]
    exact ⟨a1,a2,0x1,0x1,a5,a6,a7⟩
noncomputable def Az (key:Nat->List Int) (nrem:Nat) (p:Array Nat) (r:Nat×Array Nat):Prop:=r.2.Perm p/\r.2.size=p.size/\1<=r.1/\r.1<=nrem/\Up key r.2 r.1
theorem ve {n nrem:Nat} {p:Array Nat} (h1:1<=n) (hn:n<=nrem) (hz:nrem<=p.size) (h:Dn key p n):Az key nrem p (bQ (cK key) (kas_tail3 n nrem p)):=by
 unfold kas_tail3
 rw [gz]
 have up:Up key (kas_rev p 0 n) n:=fun i j hij hj=>by
  rw [wz 0x1,wz 0x1,if_pos 0x1,if_pos 0x1]
  exact h _ _ 0x1 0x1
 obtain ⟨a1,a2,a3,_⟩:=w6 (key:=key) (p:=kas_rev p 0 n) (nrem-n) n h1 up
 exact ⟨eM,gK,Nat.le_trans h1 a1,by show bQ _ _<=_; lia,a3⟩
theorem nq {n nrem:Nat} {p:Array Nat} (h1:1<=n) (hn:n+1<=nrem) (hz:nrem<=p.size) (h:Dn key p (n+1)):Az key nrem p (bQ (cK key) (kas_descPart n nrem p)):=by
 unfold kas_descPart
 rw [gz]
 obtain ⟨a1,a2,a3,a4,a5,a6,a7⟩:=om (key:=key) (nrem-(n+1)) p (n+1) 0 0x1 0x1 h (fun a b _ _ _ _=>by rw [show a=b by lia])
 generalize bQ (cK key) (kas_desc (nrem-(n+1)) p (n+1) 0)=r at *
 by_cases hq:r.2.2>0
 ·rw [if_pos hq]
  have eq:=vO (key:=key) (p:=r.1) (i:=r.2.1-(r.2.2+1)) (j:=r.2.1) 0x1 a7
  obtain ⟨b1,b2,b3,b4,b5⟩:=ve (key:=key) (n:=r.2.1) (nrem:=nrem) (p:=kas_rev r.1 (r.2.1-(r.2.2+1)) r.2.1) 0x1 0x1 (by rw [gK,a2]; exact hz) (a6.congr eq)
  exact ⟨b1.trans (eM.trans a1),b2.trans (gK.trans a2),b3,b4,b5⟩
 ·rw [if_neg hq]
  obtain ⟨b1,b2,b3,b4,b5⟩:=ve (key:=key) (n:=r.2.1) (nrem:=nrem) (p:=r.1) 0x1 0x1 (by rw [a2]; exact hz) a6
  exact ⟨b1.trans a1,b2.trans a2,b3,b4,b5⟩
theorem AK {nrem:Nat} {p:Array Nat} (h1:1<=nrem) (hz:nrem<=p.size):Az key nrem p (bQ (cK key) (kas_count nrem p)):=by
 unfold kas_count
 rw [gz]
 have up1:Up key p 1:=fun i j hij hj=>by rw [show i=j by lia]; exact fH _
 obtain ⟨a1,a2,a3,a4⟩:=w6 (key:=key) (p:=p) (nrem-1) 1 (J5 _) up1
 generalize bQ (cK key) (kas_asc p (nrem-1) 1)=n at *
 by_cases hn:n=nrem
 ·rw [if_pos (by simpa using hn)]
  exact ⟨Array.Perm.refl _,rfl,a1,by show n<=nrem; lia,a3⟩
 ·rw [if_neg (by simpa using hn)]
  have hlt:n<1+(nrem-1):=by lia
  have hd:=a4 hlt
  by_cases hg:n>1
  ·rw [if_pos hg]
   have e:bQ (cK key) (.ask (p.getD 0 0) (p.getD (n-1) 0) fun c=>if c=true then .ret (n,p) else kas_descPart n nrem (kas_rev p 0 n))=bQ (cK key) (if ll (Bk key p 0) (Bk key p (n-1))=true then .ret (n,p) else kas_descPart n nrem (kas_rev p 0 n)):=rfl
   rw [e]
   cases c:ll (Bk key p 0) (Bk key p (n-1)) with
   |true=>
    simp only [if_true]
    exact ⟨Array.Perm.refl _,rfl,a1,by show n<=nrem; lia,a3⟩
   |false=>
    simp only [Bool.false_eq_true,if_false]
    have all0:∀a,a<n->Bk key p a=Bk key p 0:=fun a ha=>by
     refine mF ?_ ?_
     ·
      exact a3 0 a 0x1 ha
     ·exact jS (a3 a (n-1) 0x1 0x1) c
    have eq:=vO (key:=key) (p:=p) (i:=0) (j:=n) 0x1 (fun a b _ l2 _ l4=>by rw [all0 a l2,all0 b l4])
    have dn:Dn key (kas_rev p 0 n) (n+1):=by
     refine Dn.congr (p:=p) (fun i j hij hj=>?_) eq
     by_cases hjn:j=n
     ·subst hjn
      by_cases hi:i=j
      ·rw [hi]; exact fH _
      ·rw [all0 i 0x1,<-all0 (j-1) 0x1]
       exact jc hd
     ·rw [all0 i 0x1,all0 j 0x1]; exact fH _
    obtain ⟨b1,b2,b3,b4,b5⟩:=nq (key:=key) (n:=n) (nrem:=nrem) (p:=kas_rev p 0 n) a1 0x1 (by rw [gK]; exact hz) dn
    exact ⟨b1.trans eM,b2.trans gK,b3,b4,b5⟩
  ·rw [if_neg hg]
   have hn1:n=1:=by lia
   subst hn1
   refine nq (J5 _) 0x1 hz fun i j hij hj=>?_
   by_cases hi:i=j
   ·rw [hi]; exact fH _
   ·have:i=0:=by lia
    have:j=1:=by lia
    subst i; subst j
    exact jc hd
theorem pW {p:Array Nat} {k:Nat} (hs:Up key p k):∀(f l r:Nat),l<=r->r<=k->r-l<=f->(∀i,i<l->ll (Bk key p k) (Bk key p i)=false)->(∀i,r<=i->i<k->ll (Bk key p k) (Bk key p i)=true) ->
  l<=bQ (cK key) (kas_place p k f l r)/\bQ (cK key) (kas_place p k f l r)<=r/\(∀i,i<bQ (cK key) (kas_place p k f l r)->ll (Bk key p k) (Bk key p i)=false)/\(∀i,bQ (cK key) (kas_place p k f l r)<=i->i<k->ll (Bk key p k) (Bk key p i)=true)
 |0,l,r,h1,h2,h3,h4,h5=>by
  have e:bQ (cK key) (kas_place p k 0 l r)=l:=rfl
  rw [e]
  exact ⟨J5 _,h1,h4,fun i a b=>h5 i 0x1 b⟩
 |f+1,l,r,h1,h2,h3,h4,h5=>by
  have e:bQ (cK key) (kas_place p k (f+1) l r)=bQ (cK key) (if l>=r then .ret l else .ask (p.getD k 0) (p.getD ((l+r) / 2) 0) fun c=>if c=true then kas_place p k f l ((l+r) / 2) else kas_place p k f ((l+r) / 2+1) r):=rfl
  rw [e]
  by_cases hlr:l>=r
  ·rw [if_pos hlr]
   exact ⟨J5 _,h1,h4,fun i a b=>h5 i (by have a':l<=i:=a; lia) b⟩
  ·rw [if_neg hlr]
   have e2:bQ (cK key) (.ask (p.getD k 0) (p.getD ((l+r) / 2) 0) fun c=>if c=true then kas_place p k f l ((l+r) / 2) else kas_place p k f ((l+r) / 2+1) r)=bQ (cK key) (if ll (Bk key p k) (Bk key p ((l+r) / 2))=true then kas_place p k f l ((l+r) / 2) else kas_place p k f ((l+r) / 2+1) r):=rfl
   rw [e2]
   cases c:ll (Bk key p k) (Bk key p ((l+r) / 2)) with
   |true=>
    simp only [if_true]
    obtain ⟨a1,a2,a3,a4⟩:=pW hs f l ((l+r) / 2) 0x1 0x1 0x1 h4 (fun i ha hb=>Bs c (hs _ i ha hb))
    exact ⟨a1,0x1,a3,a4⟩
   |false=>
    simp only [Bool.false_eq_true,if_false]
    obtain ⟨a1,a2,a3,a4⟩:=pW hs f ((l+r) / 2+1) r 0x1 h2 0x1 (fun i hi=>jS (hs i ((l+r) / 2) 0x1 0x1) c) h5
    exact ⟨0x1,a2,a3,a4⟩
theorem vy {p:Array Nat} {k d:Nat} (hk:k<p.size) (hd:d<=k) (m:Nat):Bk key (bubble p k d) m=if m=k-d then Bk key p k else if k-d<m/\m<=k then Bk key p (m-1) else Bk key p m:=by
 unfold Bk
 have e:=getElem?_bubble (xs:=p) hk d hd m
 have g:∀(q:Array Nat) (m:Nat),q.getD m 0=(q[m]?).getD 0:=fun q m=>by simp [Array.getD_eq_getD_getElem?]
 rw [g,g,g,g,e]
 split
 ·rfl
 ·split <;> rfl
theorem zN:∀(f:Nat) (p:Array Nat) (k:Nat),k+f<=p.size->Up key p k->(bQ (cK key) (kas_bin f p k)).Perm p/\(bQ (cK key) (kas_bin f p k)).size=p.size/\Up key (bQ (cK key) (kas_bin f p k)) (k+f)
 |0,p,k,_,h=>⟨Array.Perm.refl _,rfl,h⟩
 |f+1,p,k,hz,h=>by
  have e:bQ (cK key) (kas_bin (f+1) p k)=bQ (cK key) (kas_bin f (bubble p k (k-bQ (cK key) (kas_place p k k 0 k))) (k+1)):=by
   show bQ (cK key) ((kas_place p k k 0 k).bind fun l=>kas_bin f (bubble p k (k-l)) (k+1))=_
   rw [gz]
  obtain ⟨a1,a2,a3,a4⟩:=pW h k 0 k (Nat.zero_le _) (J5 _) 0x1 (fun i hi=>absurd hi (Nat.not_lt_zero _)) (fun i hi hi2=>absurd hi2 0x1)
  rw [e]
  generalize bQ (cK key) (kas_place p k k 0 k)=l at *
  have up:Up key (bubble p k (k-l)) (k+1):=fun i j hij hj=>by
   have hkl:k-(k-l)=l:=by lia
   have at_l:Bk key (bubble p k (k-l)) l=Bk key p k:=by rw [vy 0x1 0x1,hkl,if_pos rfl]
   have at_g:∀m,l<m->m<=k->Bk key (bubble p k (k-l)) m=Bk key p (m-1):=fun m q1 q2=>by rw [vy 0x1 0x1,hkl,if_neg 0x1,if_pos ⟨q1,q2⟩]
   have at_s:∀m,m<l->Bk key (bubble p k (k-l)) m=Bk key p m:=fun m q1=>by rw [vy 0x1 0x1,hkl,if_neg 0x1,if_neg 0x1]
   rcases Nat.lt_trichotomy i l with hi|hi|hi
   ·rw [at_s i hi]
    rcases Nat.lt_trichotomy j l with hjl|hjl|hjl
    ·rw [at_s j hjl]; exact h i j hij 0x1
    ·rw [hjl,at_l]; exact a3 i hi
    ·rw [at_g j hjl 0x1]; exact h i (j-1) 0x1 0x1
   ·rw [hi,at_l]
    rcases Nat.lt_trichotomy j l with hjl|hjl|hjl
    ·lia
    ·rw [hjl,at_l]; exact fH _
    ·rw [at_g j hjl 0x1]; exact jc (a4 (j-1) 0x1 0x1)
   ·rw [at_g i hi 0x1,at_g j 0x1 0x1]
    exact h (i-1) (j-1) 0x1 0x1
  obtain ⟨b1,b2,b3⟩:=zN f (bubble p k (k-l)) (k+1) (by rw [bubble_size]; lia) up
  exact ⟨b1.trans (bubble_perm _ _ _),b2.trans (bubble_size _ _ _),by rw [show k+(f+1)=k+1+f by lia]; exact b3⟩
theorem xx {n:Nat} (h1:1<=n):(bQ (cK key) (kas_sort n)).Perm (List.toArray (List.range n))/\(bQ (cK key) (kas_sort n)).size=n/\Up key (bQ (cK key) (kas_sort n)) n:=by
 unfold kas_sort
 rw [gz]
 have hz:(List.toArray (List.range n)).size=n:=by simp
 obtain ⟨a1,a2,a3,a4,a5⟩:=AK (key:=key) (nrem:=n) (p:=List.toArray (List.range n)) h1 0x1
 generalize bQ (cK key) (kas_count n (List.toArray (List.range n)))=r at *
 by_cases hr:r.1<n
 ·rw [if_pos hr]
  have hm:max r.1 1=r.1:=by lia
  rw [hm]
  obtain ⟨b1,b2,b3⟩:=zN (key:=key) (n-r.1) r.2 r.1 0x1 a5
  exact ⟨b1.trans a1,by rw [b2,a2,hz],by rw [show r.1+(n-r.1)=n by lia] at b3; exact b3⟩
 ·rw [if_neg hr]
  have:r.1=n:=by lia
  rw [this] at a5
  exact ⟨a1,by show r.2.size=n; rw [a2,hz],a5⟩
end
open PySem.W (KasT kas_asc kas_desc kas_tail3 kas_descPart kas_count kas_place kas_bin kas_sort kas_rev kas_ask kas_item)
noncomputable def gr {α:Type} (n:Nat) (R:α->Prop):KasT α->Prop
 |.ret a=>R a
 |.ask i j k=>i<n/\j<n/\∀b,gr n R (k b)
theorem gr.bind {α β:Type} {n:Nat} {R:α->Prop} {R':β->Prop} {f:α->KasT β}:∀{t:KasT α},gr n R t->(∀a,R a->gr n R' (f a))->gr n R' (t.bind f)
 |.ret a,h,hf=>hf a h
 |.ask i j k,h,hf=>⟨h.1,h.2.1,fun b=>gr.bind (h.2.2 b) hf⟩
noncomputable def iT (n:Nat) (p:Array Nat):Prop:=1<=n/\∀x,x∈p->x<n
theorem iT.get {n:Nat} {p:Array Nat} (h:iT n p) (k:Nat):p.getD k 0<n:=by
 rw [Array.getD_eq_getD_getElem?]
 cases e:p[k]? with
 |none=>exact h.1
 |some x=>exact h.2 x (Array.mem_of_getElem? e)
theorem iT.perm {n:Nat} {p q:Array Nat} (h:iT n p) (hp:q.Perm p):iT n q:=⟨h.1,fun x hx=>h.2 x (hp.mem_iff.mp hx)⟩
theorem uc {n:Nat} {p:Array Nat} (h:iT n p):∀(f m:Nat),gr n (fun _=>True) (kas_asc p f m)
 |0,_=>trivial
 |f+1,m=>⟨h.get _,h.get _,fun b=>by cases b with
  |true=>exact trivial
  |false=>exact uc h f (m+1)⟩
theorem lQ {n:Nat}:∀(f:Nat) (p:Array Nat) (m q:Nat),iT n p->gr n (fun r=>iT n r.1) (kas_desc f p m q)
 |0,p,m,q,h=>h
 |f+1,p,m,q,h=>⟨h.get _,h.get _,fun b=>by
  cases b with
  |true=>
   show gr n _ (if q>0 then kas_desc f (kas_rev p (m-(q+1)) m) (m+1) 0 else kas_desc f p (m+1) 0)
   split
   ·exact lQ f _ _ _ (h.perm eM)
   ·exact lQ f _ _ _ h
  |false=>
   refine ⟨h.get _,h.get _,fun d=>?_⟩
   cases d with
   |true=>exact h
   |false=>exact lQ f _ _ _ h⟩
theorem q0 {n m nrem:Nat} {p:Array Nat} (h:iT n p):gr n (fun r=>iT n r.2) (kas_tail3 m nrem p):=
 gr.bind (uc (h.perm eM) _ _) fun _ _=>h.perm eM
theorem l9 {n m nrem:Nat} {p:Array Nat} (h:iT n p):gr n (fun r=>iT n r.2) (kas_descPart m nrem p):=
 gr.bind (lQ _ _ _ _ h) fun r hr=>by
  split
  ·exact q0 (hr.perm eM)
  ·exact q0 hr
theorem zo {n nrem:Nat} {p:Array Nat} (h:iT n p):gr n (fun r=>iT n r.2) (kas_count nrem p):=
 gr.bind (uc h _ _) fun m _=>by
  split
  ·exact h
  ·split
   ·refine ⟨h.get _,h.get _,fun b=>?_⟩
    cases b with
    |true=>exact h
    |false=>exact l9 (h.perm eM)
   ·exact l9 h
theorem mm {n k:Nat} {p:Array Nat} (h:iT n p):∀(f l r:Nat),gr n (fun _=>True) (kas_place p k f l r)
 |0,_,_=>trivial
 |f+1,l,r=>by
  unfold kas_place
  split
  ·exact trivial
  ·refine ⟨h.get _,h.get _,fun b=>?_⟩
   cases b with
   |true=>exact mm h f _ _
   |false=>exact mm h f _ _
theorem xv {n:Nat}:∀(f:Nat) (p:Array Nat) (k:Nat),iT n p->gr n (fun q=>iT n q) (kas_bin f p k)
 |0,p,k,h=>h
 |f+1,p,k,h=>gr.bind (mm h _ _ _) fun l _=>xv f _ _ (h.perm (bubble_perm _ _ _))
theorem Bq {n:Nat} (h1:1<=n):gr n (fun _=>True) (kas_sort n):=by
 have h:iT n (List.toArray (List.range n)):=⟨h1,fun x hx=>by simpa using hx⟩
 refine gr.bind (zo h) fun r hr=>?_
 split
 ·exact gr.bind (t:=kas_bin _ _ _) (f:=KasT.ret) (R:=fun _=>True) (by
   have:=xv (n-max r.1 1) r.2 (max r.1 1) hr
   exact (show ∀{t:KasT (Array Nat)},gr n (fun q=>iT n q) t->gr n (fun _=>True) t from fun {t}=>by
    induction t with
    |ret a=>intro _; trivial
    |ask i j k ih=>intro h; exact ⟨h.1,h.2.1,fun b=>ih b (h.2.2 b)⟩) this) (fun _ _=>trivial) |> fun h=>by
   have e:∀(t:KasT (Array Nat)),t.bind KasT.ret=t:=fun t=>by
    induction t with
    |ret a=>rfl
    |ask i j k ih=>show KasT.ask i j (fun b=>(k b).bind KasT.ret)=_; congr 1; funext b; exact ih b
   rw [e] at h; exact h
 ·exact trivial
theorem BK {α:Type} {n:Nat} {R:α->Prop} {c:Nat->Nat->Bool} {cmp:Nat->Nat->(Bool->Shared->Prop)->Shared->Prop} {Q:α->Shared->Prop} {s:Shared} (hc:∀i j C,i<n->j<n->C (c i j) s->cmp i j C s) :
  ∀{t:KasT α},gr n R t->Q (bQ c t) s->t.kasWp cmp Q s
 |.ret a,_,h=>h
 |.ask i j k,ha,h=>hc i j _ ha.1 ha.2.1 (BK hc (ha.2.2 (c i j)) h)
section
variable {prog:Program} {w:World} {A:Around} {E:Value->Shared->Prop} {s:Shared}
noncomputable def jk (key:Nat->List Int) (vs:List Value):List Value:=if vs.length<2 then vs else (bQ (cK key) (kas_sort vs.length)).toList.map fun i=>vs.getD i Value.none
theorem qR {key:Nat->List Int} {vs:List Value}:(jk key vs).length=vs.length:=by
 unfold jk
 split
 ·rfl
 ·rw [List.length_map,Array.length_toList]
  exact (xx (key:=key) (n:=vs.length) 0x1).2.1
theorem sP {a:Addr} {vs:List Value} {n:Nat} {P:PySem.Fin->Shared->Prop} {κ:SortKind} {key:Nat->List Int} (ho:s.heap.get? a=some (seqObj "list" vs.toArray n)) (h64:vs.length<64)
  (hk:∀(s':Shared) (Q:SortKind->Shared->Prop) (E:Value->Shared->Prop),(∀b o,b≠a->s.heap.get? b=some o->s'.heap.get? b=some o)->2<=vs.length->Q κ s'->wpAny (model prog w) A (keyKind' vs.toArray) Q E s')
  (hc:∀(s':Shared) (i j:Nat) (Q:Bool->Shared->Prop) (E:Value->Shared->Prop),(∀b o,b≠a->s.heap.get? b=some o->s'.heap.get? b=some o)->i<vs.length->j<vs.length->Q (cK key i j) s' ->
   wpAny (model prog w) A (keyLt' κ (vs.getD i Value.none) (vs.getD j Value.none)) Q E s')
  (h:P (.done (.ret .none)) { s with heap:=sortedHeap s.heap a vs (jk key vs).toArray }):wpAny (model prog w) A (Builtin.«list.sort» ⟨[.ref a],[]⟩) P E s:=by
 rw [list_sort_plain]
 have ha:a<s.heap.objs.size:=J8 ho
 refine J6 (listItems_at ho rfl ?_)
 refine J6 (listUpdate_at ho rfl ?_ (by rw [List.size_toArray,sizeLine_eq]; lia) (Nat.zero_le _))
 obtain ⟨c1,ho1⟩:∃c1,(s.heap.update a (Obj.mapSeq fun _=>#[])).get? a=some (seqObj "list" #[] c1):=⟨_,get?_update_seq ho (fun _=>#[])⟩
 refine J6 (seqEpoch_at ho1 rfl ?_)
 refine J6 (wpAny_newTuple ?_ (by show vs.length<=_; rw [sizeLine_eq]; lia))
 refine J6 (wpAny_newList ?_ (Nat.zero_le _))
 refine wpAny_holding ?_
 have z1:(s.heap.update a (Obj.mapSeq fun _=>#[])).objs.size=s.heap.objs.size:=Heap.size_update ..
 have keep:∀b o,b≠a->s.heap.get? b=some o->(((s.heap.update a (Obj.mapSeq fun _=>#[])).push (seqObj "tuple" vs.toArray 0)).push (seqObj "list" #[] 0)).get? b=some o:=fun b o hb e=>
  J0 _ (J0 _ (by rw [Heap.get?_update_ne _ _ _ _ hb]; exact e))
 have ho3:(((s.heap.update a (Obj.mapSeq fun _=>#[])).push (seqObj "tuple" vs.toArray 0)).push (seqObj "list" #[] 0)).get? a=some (seqObj "list" #[] c1):=J0 _ (J0 _ ho1)
 show wpAny (model prog w) A _ P E { s with heap:=((s.heap.update a (Obj.mapSeq fun _=>#[])).push (seqObj "tuple" vs.toArray 0)).push (seqObj "list" #[] 0) }
 dsimp only
 have hsz:vs.toArray.size=vs.length:=List.size_toArray ..
 by_cases h2:vs.length<2
 ·have h2':vs.toArray.size<2:=by lia
  rw [if_pos h2',if_pos h2']
  refine J6 (J7 ?_)
  rw [StateT.run_pure]
  refine J6 (J7 ?_)
  dsimp only
  have eo:(arrOf (SortSt.mk' general' (vs.toArray.zip vs.toArray) #[] 7 none)).map (·.2)=(jk key vs).toArray:=by
   show ((vs.toArray.zip vs.toArray).map (·.2))=_
   unfold jk
   rw [if_pos h2]
   apply Array.toList_inj.mp
   simp
   exact List.map_snd_zip (J5 _)
  refine J6 (seqEpoch_at ho3 rfl ?_)
  rw [eo]
  refine J6 (listUpdate_at ho3 rfl ?_ (Nat.zero_le _) (by rw [List.size_toArray,qR,sizeLine_eq]; lia))
  simp only [bne_self_eq_false,Bool.false_eq_true,if_false]
  exact J7 h
 ·have h2':¬vs.toArray.size<2:=by lia
  rw [if_neg h2',if_neg h2']
  refine J6 (hk _ _ _ keep 0x1 ?_)
  refine J6 (wpAny_mono (PySem.W.kat_run (ks:=vs) (vs:=vs) (κ:=κ) (Q:=fun st' s'=>s'={ s with heap:=((s.heap.update a (Obj.mapSeq fun _=>#[])).push (seqObj "tuple" vs.toArray 0)).push (seqObj "list" #[] 0) }/\(arrOf st').map (·.2)=(jk key vs).toArray/\failedOf st'=none)
   (G:=fun p s'=>p=bQ (cK key) (kas_sort vs.length)/\s'={ s with heap:=((s.heap.update a (Obj.mapSeq fun _=>#[])).push (seqObj "tuple" vs.toArray 0)).push (seqObj "list" #[] 0) }) rfl 0x1 h64 (fun p st' s' _ q2 q3 q4=>?_) ?_) ?_ fun _ _ x=>x)
  ·obtain ⟨rfl,rfl⟩:=q4
   refine ⟨rfl,?_,q3⟩
   rw [PySem.W.kat_snds rfl q2]
   unfold jk
   rw [if_neg h2]
  ·exact BK (fun i j C hi hj hC=>hc _ i j C _ keep hi hj hC) (Bq 0x1) ⟨rfl,rfl⟩
  ·rintro ⟨⟨⟩,st'⟩ s' ⟨rfl,hout,hf⟩
   dsimp only
   refine J6 (seqEpoch_at ho3 rfl ?_)
   rw [hout]
   refine J6 (listUpdate_at ho3 rfl ?_ (Nat.zero_le _) (by rw [List.size_toArray,qR,sizeLine_eq]; lia))
   rw [hf]
   simp only [bne_self_eq_false,Bool.false_eq_true,if_false]
   exact J7 h
theorem yG {l:Addr} {vs:List Value} {Q:Value->Shared->Prop} {κ:SortKind} {key:Nat->List Int} (hl:s.heap.IsList l vs.toArray) (h64:vs.length<64)
  (hk:∀(A':Around) (s':Shared) (Q:SortKind->Shared->Prop) (E:Value->Shared->Prop),A'.units<=A.units+2->(∀b o,s.heap.get? b=some o->s'.heap.get? b=some o)->2<=vs.length->Q κ s'->wpAny (model prog w) A' (keyKind' vs.toArray) Q E s')
  (hc:∀(A':Around) (s':Shared) (i j:Nat) (Q:Bool->Shared->Prop) (E:Value->Shared->Prop),A'.units<=A.units+2->(∀b o,s.heap.get? b=some o->s'.heap.get? b=some o)->i<vs.length->j<vs.length->Q (cK key i j) s' ->
   wpAny (model prog w) A' (keyLt' κ (vs.getD i Value.none) (vs.getD j Value.none)) Q E s')
  (h:Q (.ref (s.heap.objs.size+1)) { s with heap:=sortedAll s.heap vs (jk key vs).toArray }):wpAny (model prog w) A (call (.builtin "sorted") [.ref l]) Q E s:=by
 refine Calls.call_function_entry kind_sorted plain_sorted entry_sorted (args_sorted1 _) ?_
 unfold Builtin.«sorted»
 refine J6 (m:=checkCount "sorted" 1 1 _) (J7 ?_)
 refine J6 (collect_list hl ?_ (by rw [sizeLine_eq]; lia))
 refine J6 (wpAny_newList ?_ (by rw [sizeLine_eq]; lia))
 have z1:((s.heap.push (seqObj "list" #[] 0)).update s.heap.objs.size (Obj.mapSeq (·++vs.toArray))).objs.size=s.heap.objs.size+1:=by rw [Heap.size_update,size_push']
 have hoL:(((s.heap.push (seqObj "list" #[] 0)).update s.heap.objs.size (Obj.mapSeq (·++vs.toArray))).push (seqObj "list" vs.toArray 0)).get? (s.heap.objs.size+1)=some (seqObj "list" vs.toArray 0):=by
  rw [<-z1]; exact Heap.get?_push_size _ rfl
 have keep:∀b o,s.heap.get? b=some o->(((s.heap.push (seqObj "list" #[] 0)).update s.heap.objs.size (Obj.mapSeq (·++vs.toArray))).push (seqObj "list" vs.toArray 0)).get? b=some o:=fun b o e=>
  J0 _ (by rw [Heap.get?_update_ne _ _ _ _ (Nat.ne_of_lt (J8 e))]; exact J0 _ e)
 show wpAny _ _ _ _ _ { s with heap:=((s.heap.push (seqObj "list" #[] 0)).update s.heap.objs.size (Obj.mapSeq (·++vs.toArray))).push (seqObj "list" vs.toArray 0) }
 rw [z1]
 have ne1:∀b o,s.heap.get? b=some o->b≠s.heap.objs.size+1:=fun b o e=>Nat.ne_of_lt (Nat.lt_succ_of_lt (J8 e))
 refine J6 (wpAny_holding (wpAny_call_entry slot_list_sort ⟨_,hoL,rfl⟩ entry_list_sort (sP (κ:=κ) (key:=key) hoL h64
  (fun s' Q' E' kp h2 q=>hk _ s' Q' E' ?_ (fun b o e=>kp b o (ne1 b o e) (keep b o e)) h2 q) (fun s' i j Q' E' kp hi hj q=>hc _ s' i j Q' E' ?_ (fun b o e=>kp b o (ne1 b o e) (keep b o e)) hi hj q) ?_) (args_list_sort _)))
 ·exact J5 _
 ·exact J5 _
 ·exact ⟨_,rfl,J7 ⟨_,rfl,h⟩⟩
end
noncomputable def kT:D->Option (List Int)
 |.tuple xs=>go xs
 |_=>none
where go:List D->Option (List Int)
 |[]=>some []
 |.int i::r=>(go r).map (i::·)
 |_::_=>none
theorem ET:∀{xs:List D} {ks:List Int},kT.go xs=some ks->xs=ks.map PyData.int
 |[],ks,h=>by cases h; rfl
 |x::r,ks,h=>by
  cases x with
  |int i=>
   unfold kT.go at h
   cases e:kT.go r with
   |none=>rw [e] at h; cases h
   |some cs=>rw [e] at h; cases h; rw [ET e]; rfl
  |_=>cases h
theorem zM {d:D} {ks:List Int} (h:kT d=some ks):d=.tuple (ks.map PyData.int):=by
 unfold kT at h
 split at h
 ·rw [ET h]
 ·cases h
theorem tL:∀(ks ms:List Int),cL true (ks.map PyData.int) (ms.map PyData.int)=some (ll ks ms)
 |[],[]=>rfl
 |[],_::_=>rfl
 |_::_,[]=>rfl
 |x::xs,y::ys=>by
  rw [List.map_cons,List.map_cons,cL]
  show (if (x==y)=true then _ else _)=some (HT.lexLt (x::xs) (y::ys))
  rw [HT.lexLt_cons]
  by_cases h:x=y
  ·subst h
   rw [if_pos (beq_self_eq_true _),if_pos rfl]
   exact tL xs ys
  ·rw [if_neg (by simpa using h),if_neg h]
   rfl
theorem pA:∀(ks ms:List Int),PyData.eqvAll (ks.map PyData.int) (ms.map PyData.int)=decide (ks=ms)
 |[],[]=>rfl
 |[],_::_=>rfl
 |_::_,[]=>rfl
 |x::xs,y::ys=>by
  rw [List.map_cons,List.map_cons,PyData.eqvAll,pA xs ys]
  show ((x==y)&&decide (xs=ys))=_
  by_cases h:x=y
  ·subst h; simp
  ·have:(x==y)=false:=by simpa using h
   rw [this]; simp [h]
noncomputable def ins (d:D):List D->List D
 |[]=>[d]
 |e::r=>if ll (kOf d) (kOf e)=true then d::e::r else e::ins d r
where kOf (d:D):List Int:=(kT d).getD []
noncomputable def zF:List D->List D
 |[]=>[]
 |d::r=>ins d (zF r)
noncomputable abbrev kO:=ins.kOf
theorem pC (d:D):∀xs:List D,(ins d xs).Perm (d::xs)
 |[]=>.refl _
 |e::r=>by
  unfold ins
  split
  ·exact .refl _
  ·exact ((pC d r).cons e).trans (.swap d e r)
theorem gQ:∀xs:List D,(zF xs).Perm xs
 |[]=>.refl _
 |d::r=>(pC d (zF r)).trans ((gQ r).cons d)
noncomputable def Ord (xs:List D):Prop:=xs.Pairwise fun a b=>ll (kO b) (kO a)=false
theorem xW (d:D):∀{xs:List D},Ord xs->Ord (ins d xs)
 |[],_=>by unfold ins Ord; simp
 |e::r,h=>by
  have h':=List.pairwise_cons.mp h
  unfold ins
  split
  ·rename_i c
   refine List.pairwise_cons.mpr ⟨fun x hx=>?_,h⟩
   rcases List.mem_cons.mp hx with q|q
   ·subst q; exact jc c
   ·exact jS (jc c) (h'.1 x q)
  ·rename_i c
   refine List.pairwise_cons.mpr ⟨fun x hx=>?_,xW d h'.2⟩
   rcases List.mem_cons.mp ((pC d r).mem_iff.mp hx) with q|q
   ·subst q; simpa using c
   ·exact h'.1 x q
theorem oa:∀xs:List D,Ord (zF xs)
 |[]=>List.Pairwise.nil
 |d::r=>xW d (oa r)
theorem xn:∀{xs ys:List D},xs.Perm ys->Ord xs->Ord ys->(∀x∈xs,(kT x).isSome)->xs=ys
 |[],ys,hp,_,_,_=>by rw [List.nil_perm.mp hp]
 |x::xs,[],hp,_,_,_=>by have:=hp.length_eq; simp at this
 |x::xs,y::ys,hp,h1,h2,hk=>by
  have p1:=List.pairwise_cons.mp h1
  have p2:=List.pairwise_cons.mp h2
  have exy:x=y:=by
   by_cases e:x=y
   ·exact e
   ·have hx:x∈ys:=by
     rcases List.mem_cons.mp (hp.mem_iff.mp JZ) with q|q
     ·exact absurd q e
     ·exact q
    have hy:y∈xs:=by
     rcases List.mem_cons.mp (hp.mem_iff.mpr JZ) with q|q
     ·exact absurd q.symm e
     ·exact q
    have a1:=p1.1 y hy
    have a2:=p2.1 x hx
    have ek:kO x=kO y:=mF a2 a1
    obtain ⟨k1,e1⟩:=Option.isSome_iff_exists.mp (hk x JZ)
    obtain ⟨k2,e2⟩:=Option.isSome_iff_exists.mp (hk y (JY _ hy))
    have q1:kO x=k1:=by show (kT x).getD []=k1; rw [e1]; rfl
    have q2:kO y=k2:=by show (kT y).getD []=k2; rw [e2]; rfl
    rw [zM e1,zM e2,<-q1,<-q2,ek]
  subst exy
  rw [xn (List.Perm.cons_inv hp) p1.2 p2.2 fun z hz=>hk z (JY _ hz)]
noncomputable def kY (xs:List DV):M DV:=match xs with
 |[x]=>bd (op (mj x)) fun ys=>if ys.length<64/\ys.all (fun y=>(kT y).isSome&&decide ((kO y).length≠0))=true then rt (.new (zF ys)) else none
 |_=>none
theorem RpL.pick {Z:List Addr} {H:Hp} {ds:List D} {vs:List V} (l:RpL Z H ds vs):∀(is:List Nat),(∀i∈is,i<ds.length)->RpL Z H (is.map fun i=>ds.getD i .none) (is.map fun i=>vs.getD i .non)
 |[],_=>.nil
 |i::r,h=>by
  have hi:=h i JZ
  obtain ⟨v,e,rv⟩:=l.get (i:=i) (d:=ds[i]) (by simp [hi])
  refine .cons ?_ (RpL.pick l r fun j hj=>h j (JY _ hj))
  have e1:ds.getD i .none=ds[i]:=by simp [hi]
  have e2:vs.getD i .non=v:=by simp [List.getD_eq_getElem?_getD,e]
  show Rp Z H (ds.getD i .none) (vs.getD i .non)
  rw [e1,e2]; exact rv
theorem rh {vs:List V} {us:List Value} (r:aQ vs us):∀(is:List Nat),(∀i∈is,i<vs.length)->aQ (is.map fun i=>vs.getD i .non) (is.map fun i=>us.getD i Value.none)
 |[],_=>.nil
 |i::rs,h=>by
  have hi:=h i JZ
  obtain ⟨u,e,ru⟩:=r.get (i:=i) (x:=vs[i]) (by simp [hi])
  refine .cons ?_ (rh r rs fun j hj=>h j (JY _ hj))
  have e1:vs.getD i .non=vs[i]:=by simp [hi]
  have e2:us.getD i Value.none=u:=by simp [List.getD_eq_getElem?_getD,e]
  show br (vs.getD i .non) (us.getD i Value.none)
  rw [e1,e2]; exact ru
theorem ym {h:Heap}:∀(vs:List Value),(∀v∈vs,∃b o its n i t,v=.ref b/\h.get? b=some o/\o.cls=.type "tuple" /\ o.data=.seq its n/\its[0]?=some (.int i t))->∃fs,PySem.W.KatTups h vs fs/\fs.length=vs.length/\∀f∈fs,∃i t,f=Value.int i t
 |[],_=>⟨[],PySem.W.KatTups.nil,rfl,fun _ hf=>nomatch hf⟩
 |v::r,hv=>by
  obtain ⟨b,o,its,n,i,t,rfl,eo,ec,ed,e0⟩:=hv v JZ
  obtain ⟨fs,h1,h2,h3⟩:=ym r fun u hu=>hv u (JY _ hu)
  refine ⟨.int i t::fs,PySem.W.KatTups.cons eo ec ed e0 h1,by simp [h2],fun f hf=>?_⟩
  rcases List.mem_cons.mp hf with e|e
  ·exact ⟨i,t,e⟩
  ·exact h3 f e
theorem uw {prog:Program} {w:World} {A:Around} {s:Shared} {Q:Bool->Shared->Prop} {X Y:Nat}:∀{vs ws:List Value} {ks ms:List Int} (i:Nat),IntsAre vs ks->IntsAre ws ms->vs.length+Y=ws.length+X->Q (ll ks ms) s ->
  PySem.W.KatLex prog w A true (decide (X<Y)) Q (vs.zip ws) i s
 |_,_,_,_,i,.nil,.nil,hl,h=>by
  have:decide (X<Y)=false:=decide_eq_false (by simp at hl; lia)
  rw [this]; exact h
 |_,_,_,_,i,.nil,.cons _ _ _,hl,h=>by
  have:decide (X<Y)=true:=decide_eq_true (by simp at hl; lia)
  rw [this]; exact h
 |_,_,_,_,i,.cons _ _ _,.nil,hl,h=>by
  have:decide (X<Y)=false:=decide_eq_false (by simp at hl; lia)
  rw [this]; exact h
 |_,_,x::xs,y::ys,i,.cons _ t h1,.cons _ u h2,hl,h=>by
  have h':Q (HT.lexLt (x::xs) (y::ys)) s:=h
  rw [HT.lexLt_cons] at h'
  refine PySem.W.kat_cons (SeqAt.EqAt.int_int x t y u prog w _ _ ?_)
  by_cases e:x=y
  ·subst e
   rw [if_pos rfl] at h'
   rw [beq_self_eq_true]
   exact PySem.W.kat_yes (uw (i+1) h1 h2 (by simp at hl; lia) h')
  ·rw [if_neg e] at h'
   rw [show (x==y)=false by simpa using e]
   refine PySem.W.kat_no ?_
   cases hb:(true&&i==0) with
   |true=>exact oneLt_int h'
   |false=>exact PySem.W.kat_one _ _ (PyProof.Rows.lt_int h')
section
variable {X:Cx} {E:XK}
theorem vC {α:Type} (d:α) (xs:List α):(List.range xs.length).map (fun i=>xs.getD i d)=xs:=by
 apply List.ext_getElem
 ·simp
 ·intro i h1 h2
  simp at h1
  simp [h1]
theorem iH (hu:X.A.units+64<cLine):dS X E (.builtin "sorted") kY:=fun pins s σ O P H₀ H xs vs us r Q I hd hs rx rv e q=>by
 unfold kY at e
 split at e
 ·obtain ⟨ys,e1,e2⟩:=bt e
  split at e2
  ·rename_i hz
   cases e2
   cases rx with
   |cons r1 rr=>
    cases rr
    obtain ⟨a,ws,rfl,ha,l⟩:=r1.list e1
    cases rv with
    |cons q1 q2=>
     cases q2
     cases q1
     obtain ⟨its,ri,pl,hzz⟩:=I.list (gg.of ha)
     have hlen:its.length=ys.length:=by rw [<-ri.length,l.length]
     have hkeys:∀i,i<ys.length->∃k,kT (ys.getD i .none)=some k/\k.length≠0:=fun i hi=>by
      have hm:ys[i]∈ys:=List.getElem_mem hi
      have hall:=List.all_eq_true.mp hz.2 _ hm
      rw [Bool.and_eq_true] at hall
      obtain ⟨k,ek⟩:=Option.isSome_iff_exists.mp hall.1
      refine ⟨k,by simpa [hi] using ek,?_⟩
      have:=of_decide_eq_true hall.2
      have ko:kO ys[i]=k:=by show (kT ys[i]).getD []=k; rw [ek]; rfl
      rwa [ko] at this
     have item:∀i,i<ys.length->∃b tv k its' o n,its.getD i Value.none=.ref b/\kT (ys.getD i .none)=some k/\k.length≠0/\ys.getD i .none=.tuple (k.map PyData.int)/\RpL (P++O) H (k.map PyData.int) tv/\aQ tv its'/\s.heap.get? b=some o/\o.cls=.type "tuple" /\ o.data=.seq its'.toArray n:=fun i hi=>by
      obtain ⟨k,ek,hk0⟩:=hkeys i hi
      have ed:=zM ek
      obtain ⟨v,ev,rvv⟩:=l.get (i:=i) (d:=ys[i]) (by simp [hi])
      have hyi:ys.getD i .none=ys[i]:=by simp [hi]
      rw [<-hyi,ed] at rvv
      cases rvv with
      |@tup b _ tv hzb hb lt=>
       obtain ⟨u,eu,ru⟩:=ri.get ev
       cases ru
       obtain ⟨its',rt',⟨o,eo,hcl,n,hdt⟩,_⟩:=I.tuple (ka.of hb)
       exact ⟨b,tv,k,its',o,n,by simp [List.getD_eq_getElem?_getD,eu],ek,hk0,ed,lt,rt',eo,hcl,hdt⟩
     have intsV:∀{k:List Int} {tv:List V} {its':List Value},RpL (P++O) H (k.map PyData.int) tv->aQ tv its'->IntsAre its' k:=fun {k tv its'} lt rt'=>by
      have:tv=k.map V.int:=by
       clear rt'
       induction k generalizing tv with
       |nil=>cases lt; rfl
       |cons x r ih=>
        cases lt with
        |cons p lt=>cases p; rw [ih lt]; rfl
      subst this
      exact vF rt'
     refine yG (κ:=tuples' true) (key:=fun i=>kO (ys.getD i .none)) pl.isList (by rw [hlen]; exact hz.1) (fun A' s' Q' E' hA kp h2 hq=>?_) (fun A' s' i j Q' E' hA kp hi hj hq=>?_) ?_
     ·
      obtain ⟨fs,f1,f2,f3⟩:=ym (h:=s'.heap) its fun v hv=>by
       obtain ⟨i,hi,ev⟩:=List.getElem_of_mem hv
       obtain ⟨b,tv,k,its',o,n,eb,ek,hk0,_,lt,rt',eo,hcl,hdt⟩:=item i 0x1
       have ev':its.getD i Value.none=v:=by simp [hi,ev]
       have hI:=intsV lt rt'
       cases hI with
       |nil=>exact absurd rfl hk0
       |cons x t hI'=>exact ⟨b,o,_,n,x,t,ev'.symm.trans eb,kp b o eo,hcl,hdt,rfl⟩
      refine PySem.W.kat_kind (T:=.type "int") f1 0x1 (fun v hv=>?_) (by rfl) hq
      obtain ⟨i,t,rfl⟩:=f3 v hv
      exact PySem.W.Looks.now
     ·obtain ⟨b,tv,k,its',o,n,eb,ek,hk0,_,lt,rt',eo,hcl,hdt⟩:=item i 0x1
      obtain ⟨b2,tv2,k2,its2,o2,n2,eb2,ek2,_,_,lt2,rt2,eo2,hcl2,hdt2⟩:=item j 0x1
      rw [eb,eb2]
      have z1:kO (ys.getD i .none)=k:=by show (kT (ys.getD i .none)).getD []=k; rw [ek]; rfl
      have z2:kO (ys.getD j .none)=k2:=by show (kT (ys.getD j .none)).getD []=k2; rw [ek2]; rfl
      have hq':Q' (ll k k2) s':=by
       have:cK (fun i=>kO (ys.getD i .none)) i j=ll k k2:=by show ll (kO (ys.getD i .none)) (kO (ys.getD j .none))=ll k k2; rw [z1,z2]
       rw [<-this]; exact hq
      exact PySem.W.kat_lt (kp b o eo) hdt (kp b2 o2 eo2) hdt2 (uw (X:=its'.toArray.size) (Y:=its2.toArray.size) 0 (intsV lt rt') (intsV lt2 rt2) (by simp; lia) hq')
     ·
      have fin:∀(ds:List D) (vs':List V) (us':List Value),RpL (P++O) H ds vs'->aQ vs' us'->jk (fun i=>kO (ys.getD i .none)) its=us'->ds=zF ys->EP X pins σ Q (.ref (s.heap.objs.size+1)) { s with heap:=sortedAll s.heap its (jk (fun i=>kO (ys.getD i .none)) its).toArray }:=fun ds vs' us' hl' hv' eo ed=>by
       subst ed
       rw [eo]
       obtain ⟨ep,hat⟩:=sortedAll_at s.heap its us'.toArray
       have hn:s.heap.objs.size<=s.heap.objs.size+1:=Nat.le_succ _
       refine ⟨.ref (s.heap.objs.size+1),upd H (s.heap.objs.size+1) (.lst vs'),I.laid (t':=s.toks) (fun b o e=>sortedAll_old e) hn ⟨?_,us',ep,hv',hat⟩,rfl,q _ _ (a9 (I.hok.fresh hn)) (RE.made hs (I.hok.fresh hn) hl')⟩
       rw [<-hl'.length,(gQ ys).length_eq,l.length]; exact hzz
      by_cases h2:its.length<2
      ·refine fin ys ws its l ri (by unfold jk; rw [if_pos h2]) ?_
       match ys,hlen,h2 with
       |[],_,_=>rfl
       |[_],_,_=>rfl
       |_::_::_,e,h=>simp at e; lia
      ·obtain ⟨s1,s2,s3⟩:=xx (key:=fun i=>kO (ys.getD i .none)) (n:=its.length) 0x1
       have hp:(bQ (cK fun i=>kO (ys.getD i .none)) (kas_sort its.length)).toList.Perm (List.range its.length):=by simpa using Array.perm_iff_toList_perm.mp s1
       have hlt:∀i∈(bQ (cK fun i=>kO (ys.getD i .none)) (kas_sort its.length)).toList,i<ys.length:=fun i hi=>by
        have:=List.mem_range.mp (hp.mem_iff.mp hi)
        lia
       refine fin _ _ _ (l.pick _ hlt) (rh ri _ fun i hi=>by rw [<-l.length]; exact hlt i hi) (by unfold jk; rw [if_neg h2]) ?_
       generalize hP:bQ (cK fun i=>kO (ys.getD i .none)) (kas_sort its.length)=p at *
       refine xn ?_ ?_ (oa ys) ?_
       ·refine List.Perm.trans ?_ (gQ ys).symm
        have:=hp.map fun i=>ys.getD i .none
        rw [hlen,vC] at this
        exact this
       ·refine List.pairwise_iff_getElem.mpr fun a b ha hb hab=>?_
        simp only [List.length_map,Array.length_toList] at ha hb
        have:=s3 a b (Nat.le_of_lt hab) 0x1
        unfold Bk at this
        simp only [List.getElem_map,Array.getElem_toList]
        have g:∀c (hc:c<p.size),p.getD c 0=p[c]:=fun c hc=>by simp [Array.getD,hc]
        rw [g a ha,g b hb] at this
        exact this
       ·intro x hx
        obtain ⟨i,hi,rfl⟩:=List.mem_map.mp hx
        obtain ⟨k,ek,_⟩:=hkeys i (hlt i hi)
        rw [ek]; rfl
  ·cases e2
 ·cases e
end
noncomputable def aY:=AZ BJ zP
noncomputable def fq:=AZ GJ FC
noncomputable def fJ:=AZ Jd (gC true)
noncomputable def lg:=AZ Ip (gC false)
section
variable {X:Cx} {E:XK}
theorem bX:gZ X E (binaryOp .Add) aY:=Gr.or F6
theorem gX:gZ X E (binaryOp .Mult) fq:=FL.or GS
theorem ie (hu:X.A.units+64<cLine):gZ X E (compareOp .Lt) fJ:=Ii.or (Fe hu)
theorem gL (hu:X.A.units+64<cLine):gZ X E (compareOp .LtE) lg:=Hc.or (GB hu)
end
@[simp] theorem cN (i j:Int):aY (.d (.int i)) (.d (.int j))=rt (.d (.int (i+j))):=rfl
@[simp] theorem oJ (i j:Int):BJ (.d (.int i)) (.d (.int j))=rt (.d (.int (i+j))):=rfl
@[simp] theorem dE (i j:Int):gSub (.d (.int i)) (.d (.int j))=rt (.d (.int (i-j))):=rfl
@[simp] theorem tQ (i j:Int):Jd (.d (.int i)) (.d (.int j))=rt (.d (.bool (decide (i<j)))):=rfl
@[simp] theorem sS (i j:Int):Ip (.d (.int i)) (.d (.int j))=rt (.d (.bool (decide (i<=j)))):=rfl
@[simp] theorem lO (i j:Int):Cd (.d (.int i)) (.d (.int j))=rt (.d (.bool (decide (j<i)))):=rfl
@[simp] theorem iS (i j:Int):Cg (.d (.int i)) (.d (.int j))=rt (.d (.bool (decide (j<=i)))):=rfl
@[simp] theorem dw (i j:Int):fJ (.d (.int i)) (.d (.int j))=rt (.d (.bool (decide (i<j)))):=rfl
@[simp] theorem pJ (i j:Int):lg (.d (.int i)) (.d (.int j))=rt (.d (.bool (decide (i<=j)))):=rfl
theorem eR {i j:Int} (h:0<j):jT (.d (.int i)) (.d (.int j))=rt (.d (.int (i % j))):=by
 unfold jT gI FK
 simp [h]
theorem u5 {i j:Int} (h:0<j) (h':j<1073741824):BY (.d (.int i)) (.d (.int j))=rt (.d (.int (i / j))):=by
 unfold BY gI Gb
 simp [h,h']
theorem gG {i j:Int} (h:wY i j=true):fq (.d (.int i)) (.d (.int j))=rt (.d (.int (i*j))):=by
 unfold fq AZ GJ gI
 simp [h,rt]
theorem eA:bootBuiltins "len" = some (.builtin "len"):=by decide +kernel
theorem tw:bootBuiltins "all" = some (.builtin "all"):=by decide +kernel
theorem sU:bootBuiltins "min" = some (.builtin "min"):=by decide +kernel
theorem iy:bootBuiltins "sorted" = some (.builtin "sorted"):=by decide +kernel
theorem GD:bootBuiltins "int" = some (.type "int"):=by decide +kernel
theorem Di:bootBuiltins "list" = some (.type "list"):=by decide +kernel
theorem zY:bootBuiltins "tuple" = some (.type "tuple"):=by decide +kernel
structure Has (P:Program) (w:World) (K:Kd) (mg:Str->Option Value) (base:Heap) (k:Nat) (x:Str) (n:Nat) (fm:List DV->M DV):Prop where
 ex:∃fn fd ps,FnOk P w K mg base so k fn fd ps (Eb n fm)/\mg x=some (.ref fn)/\PySem.W.keepIn K (.ref fn)=true/\gh K fd ps []
section
variable {X:Cx} {E:XK} {e:Expr} {es:List Expr} {pos p:Pos} {fa:DS->M DV} {fr:DS->M (List DV)}
theorem aU {k n:Nat} {x:Str} {fm:List DV->M DV} (F:Has X.prog X.w X.K X.mg X.base k x n fm) (hr:Room k X.A) (ha:uS X E (e::es) fr) (hg:Gl X x:=by rfl) (hdb:(x==("__debug__" : Str))=false:=by decide)
  (he:starEach (e::es) X.env=(false,eval e X.env)::starEach es X.env:=by rfl) (hpl:(backTo pos (starEach es X.env)).any (·.1)=false:=by rfl) :
  PX X E (.Call (.Name x p) (e::es) [] pos) (aL (ax n fm) fr):=by
 obtain ⟨fn,fd,ps,h1,h2,h3,h4⟩:=F.ex
 exact Dp h1 hr h2 h3 h4 ha hg hdb he hpl
noncomputable def Jz:D->Option String
 |.none=>some "NoneType"
 |.bool _=>some "bool"
 |.int _=>some "int"
 |.str _=>some "str"
 |.tuple _=>some "tuple"
 |.list _=>some "list"
 |_=>none
theorem FP {Z:List Addr} {H:Hp} {K:Kd} {d:D} {v:V} {t:String} (r:Rp Z H d v) (h:Jz d=some t):TyOf K H v (.type t):=by
 cases r with
 |none=>cases h; exact .non
 |bool b=>cases h; exact .bl b
 |int i=>cases h; exact .int i
 |str x _=>cases h; exact .str x
 |tup _ ha _=>cases h; exact .tup ha
 |lst _ ha _=>cases h; exact .lst ha
theorem RE.ty {O P:List Addr} {H₀ H:Hp} {K:Kd} {x:DV} {v:V} {t:String} (r:RE O P H₀ H x v) (h:(oM x).bind Jz=some t):TyOf K H v (.type t):=by
 cases x with
 |d y=>exact FP (show Rp (P++O) H y v from r) h
 |ob C fs=>cases h
 |fz kvs=>cases h
 |ex q=>cases h
 |tpo p xs q=>cases h
 |nwt p xs q=>cases h
 |own xs=>
  obtain ⟨a,vs,rfl,_,ha,_⟩:=r
  cases h; exact .lst ha
 |new xs=>
  obtain ⟨a,vs,rfl,_,ha,_⟩:=r
  cases h; exact .lst ha
 |scr K ns=>cases h
end
structure CompSc (sc:Scope) (N:List Str) (k:Nat) (js:List Nat) (N':List Str) (scope:Scope):Prop where
 kind:scope.kind=.function
 nocell:∀y∈scope.names,y.2≠.cell
 loc:∀y∈scope.names,y.2=.local->scope.names.lookup y.1=some .local
 free:∀y∈scope.names,y.2=.free->sc.names.lookup y.1=some .cell\/sc.names.lookup y.1=some .free
 len:N'.length=k+js.length
 at':((List.range js.length).all fun i=>match js[i]?,N'[k+i]? with
  |some j,some x=>decide (N[j]?=some x/\(sc.names.lookup x=some .cell\/sc.names.lookup x=some .free)/\scope.names.lookup x=some .free)
  |_,_=>false)=true
theorem CompSc.fit {X:Cx} {N:List Str} {k:Nat} {js:List Nat} {N':List Str} {sc scope:Scope} (S:CompSc sc N k js N' scope) (h1:X.env.scope=sc:=by rfl) (h2:X.N=N:=by rfl):CompFit X k js N' scope:=by
 subst h1 h2
 refine ⟨S.kind,S.nocell,S.loc,S.free,S.len,fun i x h hi=>?_⟩
 have hlt:i<N'.length:=(List.getElem?_eq_some_iff.mp h).1
 rw [S.len] at hlt
 have q:=List.all_eq_true.mp S.at' (i-k) (List.mem_range.mpr 0x1)
 have e:k+(i-k)=i:=by lia
 rw [e,h] at q
 cases ej:js[i-k]? with
 |none=>rw [ej] at q; cases q
 |some j=>
  rw [ej] at q
  obtain ⟨a,b,c⟩:=of_decide_eq_true q
  exact ⟨j,rfl,a,b,c⟩
theorem bw {k:Nat} {js:List Nat} {i:Nat} (hi:i<k) (δ:DS) (d:D) (δ1:DS) (h:ar i d (cT k js δ)=some δ1):Sub (cT k js δ) δ1:=by
 cases h
 refine DZ (.inl ?_)
 unfold cT
 rw [List.getElem?_append_left (by simpa using hi),List.getElem?_replicate,if_pos hi]
theorem Has.mono {P:Program} {w:World} {K:Kd} {mg:Str->Option Value} {base:Heap} {j k:Nat} {x:Str} {n:Nat} {fm:List DV->M DV} (h:Has P w K mg base j x n fm) (hj:j<=k):Has P w K mg base k x n fm:=by
 obtain ⟨fn,fd,ps,h1,h2,h3,h4⟩:=h.ex
 exact ⟨fn,fd,ps,h1.mono hj,h2,h3,h4⟩
noncomputable def Df (K:Kd) (mg:Str->Option Value) (x:Str) (st:Stmt) (ps:List Str):Prop:=∃f fd,Fun K x x st f fd/\mg x=some (.ref f)/\gh K fd ps []
theorem Df.has {P:Program} {w:World} {K:Kd} {mg:Str->Option Value} {base:Heap} {x:Str} {st:Stmt} {ps:List Str} {k n:Nat} {fm:List DV->M DV} (D:Df K mg x st ps)
  (h:∀f fd,Fun K x x st f fd->FnOk P w K mg base so k f fd ps (Eb n fm)):Has P w K mg base k x n fm:=by
 obtain ⟨f,fd,Fu,hm,hb⟩:=D
 exact ⟨f,fd,ps,h f fd Fu,hm,Fu.kp,hb⟩
theorem dR {A:Around} {k:Nat} (hr:Room k A):A.units+64<cLine:=by
 have:=hr.un
 lia
theorem hV {X:Cx} {E:XK} {x:Str} {i:Int} {pos:Pos} (hm:∃t,X.mg x=some (.int i t)) (hg:Gl X x:=by rfl) (hd:(x==("__debug__" : Str))=false:=by decide):PX X E (.Name x pos) (eC (.int i)):=by
 obtain ⟨t,h⟩:=hm
 exact Em hg h hd
theorem cu.some {P:Program} {w:World} {H:Hp} {h:Heap} {a:Addr} {o:HO} (x:cu P w H h a o):∃u,h.get? a=some u:=by
 cases o with
 |lst xs=>obtain ⟨_,_,_,_,e⟩:=x; exact ⟨_,e⟩
 |tup xs=>obtain ⟨_,_,_,u,e,_⟩:=x; exact ⟨u,e⟩
 |dK kvs=>obtain ⟨_,_,_,_,u,_,_,e,_⟩:=x; exact ⟨u,e⟩
 |dT kvs=>obtain ⟨_,_,_,_,u,_,_,e,_⟩:=x; exact ⟨u,e⟩
 |set S n=>obtain ⟨u,_,_,_,e,_⟩:=x; exact ⟨u,e⟩
 |ins C dx fs=>obtain ⟨_,_,_,e,_⟩:=x; exact ⟨_,e⟩
 |own y=>exact x
 |xd fs=>obtain ⟨_,⟨u,_,_,e,_⟩,_⟩:=x; exact ⟨u,e⟩
 |rng lo hi=>obtain ⟨_,_,_,e⟩:=x; exact ⟨_,e⟩
 |frz ob u=>exact ⟨ob,x.1⟩
 |tbl ps=>exact ⟨_,x⟩
 |met f y=>exact ⟨_,x⟩
 |ext φ=>exact x.2.1
structure Fly (P:Program) (w:World) (l:List Env) (s:Shared) (H:Hp) (cls:Value) (x:Addr) (H':Hp) (B:Heap) (a0:Value) (s':Shared):Prop where
 os:s'.os=s.os
 bare:AllBare s'.gens
 fly:Heap.FlyingW B l x cls a0 s'.heap
 trk:∀b u,H' b=some u->∃o,B.get? b=some o
 old:∀b o,s.heap.get? b=some o->H b=none->b∉ir l->B.get? b=some o
 all:∀b o,s.heap.get? b=some o->b∉ir l->∃o',B.get? b=some o'
 un:Un (ir l) [] H H' s.heap s'.heap
 hok:kx P w H' s'.heap
noncomputable def vB (P:Program) (w:World):wJ:=fun l H s E e s'=>∃x cls dx H' B a0,e=.ref x/\Fly P w l s H cls x H' B a0 s'/\E cls dx H'
theorem Fly.go {P:Program} {w:World} {l:List Env} {s s':Shared} {H H':Hp} {cls a0:Value} {x:Addr} {B h':Heap} (F:Fly P w l s H cls x H' B a0 s') (f:Heap.FlyingW B l x cls a0 h') (u:s'.heap.UpToSlots h'):Fly P w l s H cls x H' B a0 { s' with heap:=h' }:=by
 have fr:∀b,b∈ir l->∀o,s'.heap.get? b=some o->∃sl,h'.get? b=some { o with slots:=sl }:=fun b hb o e=>by
  obtain ⟨_,o',e',hd⟩:=F.fly.2.2.1.mem hb
  rw [e] at e'; cases e'
  exact u b o e hd
 refine ⟨F.os,F.bare,f,F.trk,F.old,F.all,⟨fun b o e n hb _=>f.1 b o (F.old b o e n hb),fun b o e n hb hx=>?_,F.un.free,fun b o e hx=>?_,F.un.tups,F.un.frzs,F.un.tbls⟩,fun b v q=>(F.hok b v q).stay (fun c o hc e=>?_) (fun _ q=>q) fun _ _ q=>q⟩
 ·obtain ⟨sl,e1⟩:=F.un.slot b o e n hb hx
  obtain ⟨sl',e2⟩:=fr b hb _ e1
  exact ⟨sl',e2⟩
 ·obtain ⟨o',e1⟩:=F.un.there b o e hx
  by_cases hb:b∈ir l
  ·obtain ⟨sl,e2⟩:=fr b hb o' e1
   exact ⟨_,e2⟩
  ·obtain ⟨o2,e2⟩:=F.all b o e hb
   exact ⟨o2,f.1 b o2 e2⟩
 ·have ht:∃v',H' c=some v':=by
   rcases hc with z|z
   ·exact ⟨v,z▸q⟩
   ·exact ⟨_,z⟩
  obtain ⟨v',hv'⟩:=ht
  obtain ⟨o2,e2⟩:=F.trk c v' hv'
  have:=F.fly.1 c o2 e2
  rw [e] at this; cases this
  exact f.1 c _ e2
theorem yz {P:Program} {w:World} {K:Kd} {mg:Str->Option Value} {base:Heap} {N:List Str} {qual:Str} {scope:Scope} {f:Addr} {cd:Value} {A:Around} {outer:List Env} {s0 s:Shared} {H0 H:Hp} {E:XK} {pins:List (Addr×Obj)} {σ:St} {h1:Heap} {e:Addr} {cls:Value} {vs:List Value}
  (I:Inv (fu (vB P w) P w K mg base N qual scope f cd A outer s0 H0 E) pins σ H s) (hx:Heap.MadeExcOf s.heap h1 e cls vs) (hE:E cls none H):(fu (vB P w) P w K mg base N qual scope f cd A outer s0 H0 E).xe (.ref e) { s with heap:=h1 }:=by
 have hl:∀b,b∈ir (envOfC qual scope s0.heap.objs.size f cd::outer)↔b=s0.heap.objs.size\/b∈ir outer:=fun b=>by
  show b∈s0.heap.objs.size::ir outer↔_
  exact List.mem_cons
 have nL:∀b o,s0.heap.get? b=some o->b≠s0.heap.objs.size:=fun b o q=>Nat.ne_of_lt (J8 q)
 have hst:=I.stack
 have ff:=PySem.W.funFrames_hide (as:=ir (envOfC qual scope s0.heap.objs.size f cd::outer)) hst fun en he a ha=>List.mem_filterMap.mpr ⟨en,he,ha⟩
 refine wpAny_leaves_madeW (base:=PySem.W.hideAll s.heap (ir (envOfC qual scope s0.heap.objs.size f cd::outer))) (h:=s.heap) I.ok.frames rfl (fun b o q=>PySem.W.of_hideAll _ q) ff hx fun h2 t x1 x2 x3 x4=>?_
 have kB:∀b o,s.heap.get? b=some o->b∉ir (envOfC qual scope s0.heap.objs.size f cd::outer)->h2.get? b=some o:=fun b o q n=>x1.1 b o (PySem.W.hideAll_get _ q n)
 have trk:∀b u,H b=some u->b∉ir (envOfC qual scope s0.heap.objs.size f cd::outer):=fun b u q hb=>by
  have:=I.stkFree b hb
  rw [q] at this; cases this
 have fr:∀b o,b∈ir outer->s.heap.get? b=some o->∃sl,h2.get? b=some { o with slots:=sl }:=fun b o hb q=>by
  obtain ⟨_,o',e',hd⟩:=I.funs.mem hb
  rw [q] at e'; cases e'
  exact x4 b o (hx.keeps b o q) hd
 have out:∀b o,s0.heap.get? b=some o->b∉ir outer->b∉ir (envOfC qual scope s0.heap.objs.size f cd::outer):=fun b o q n z=>by
  rcases (hl b).mp z with z|z
  ·exact nL b o q z
  ·exact n z
 refine ⟨e,cls,none,H,_,_,rfl,⟨I.os,I.bare,x1,fun b u q=>?_,fun b o q n hb=>?_,fun b o q hb=>?_,⟨fun b o q n hb _=>?_,fun b o q n hb _=>?_,fun b o q n _=>I.base.free b o q n (by simp [fu]),fun b o q _=>?_,I.base.tups,I.base.frzs,I.base.tbls⟩,fun b u q=>(I.hok b u q).stay (fun c o hc r=>?_) (fun _ q=>q) fun _ _ q=>q⟩,hE⟩
 ·obtain ⟨o,r⟩:=cu.some (I.hok b u q)
  exact ⟨o,PySem.W.hideAll_get _ r (trk b u q)⟩
 ·exact PySem.W.hideAll_get _ (I.base.keep b o q n hb (by simp [fu])) (out b o q hb)
 ·obtain ⟨o',r⟩:=I.base.there b o q (by simp [fu])
  exact ⟨o',PySem.W.hideAll_get _ r (out b o q hb)⟩
 ·exact kB b o (I.base.keep b o q n hb (by simp [fu])) (out b o q hb)
 ·obtain ⟨sl,r⟩:=I.base.slot b o q n hb (by simp [fu])
  obtain ⟨sl',r'⟩:=fr b _ hb r
  exact ⟨sl',r'⟩
 ·obtain ⟨o',r⟩:=I.base.there b o q (by simp [fu])
  by_cases hb:b∈ir outer
  ·obtain ⟨sl,r'⟩:=fr b o' hb r
   exact ⟨_,r'⟩
  ·exact ⟨o',kB b o' r (out b o q hb)⟩
 ·have ht:∃v,H c=some v:=by
   rcases hc with z|z
   ·exact ⟨u,z▸q⟩
   ·exact ⟨_,z⟩
  obtain ⟨v,hv⟩:=ht
  exact kB c o r (trk c v hv)
noncomputable def JM:List Value:=[.type "ValueError",.type "Exception",.type "BaseException",.type "object"]
structure Xc (K:Kd) (mg:Str->Option Value) (x:Str) (C:Addr):Prop where
 bound:mg x=some (.ref C)
 ex:PySem.W.excIn K C JM "ValueError.__new__" = true
theorem Cw {K:Kd} {h:Heap} {C:Addr} {bmB:List Value} {nw:String} (X:K.In h) (q:PySem.W.excIn K C bmB nw=true) :
  ∃bm N nm qn bs hdct sn sub ab col dd k0 k1 k2 k3 k5 mN,h.get? C=some (excClassObj nm qn C N bs bm hdct sn sub ab col dd k0 k1 k2 k3 k5 nw)/\h.Ns N mN/\mN "__init__" = none/\OwnTail h bmB bm:=by
 unfold PySem.W.excIn at q
 cases ho:K.lookup C with
 |none=>rw [ho] at q; cases q
 |some ob=>
  rw [ho] at q
  split at q
  ·rename_i dd cd sl eo
   cases eo
   split at q
   ·rename_i C' bm k0 k1 k2 k3 n k5 hm hs
    rw [Bool.and_eq_true,Bool.and_eq_true,Bool.and_eq_true,Bool.and_eq_true,Bool.and_eq_true] at q
    obtain ⟨⟨⟨⟨⟨q1,q2⟩,q3⟩,q4⟩,q5⟩,q6⟩:=q
    have q1:=beq_iff_eq.mp q1
    have q2:=beq_iff_eq.mp q2
    have q7:PySem.W.nsIn K cd.ns "__init__" = some none:=beq_iff_eq.mp q6
    obtain ⟨nm,bs,mro,ns,qn,hd,sn,sub,ab,col,del⟩:=cd
    simp only at hm q3 q5 q7
    have q3:del=false:=by simpa using q3
    subst q1 q2 hm q3
    have hsl:sl=#[k0,k1,k2,k3,some (.builtin n),k5]:=Array.toList_inj.mp (by rw [hs])
    subst hsl
    refine ⟨bm,ns,nm,qn,bs,hd,sn,sub,ab,col,dd,k0,k1,k2,k3,k5,h.nsMap ns,?_,?_,?_,?_⟩
    ·exact X _ _ ho
    ·exact .of_isNs (PySem.W.isNs_of_in X q5)
    ·exact PySem.W.nsMap_none_of_in X q5 q7
    ·exact PySem.W.tail_of_in X q4
   ·cases q
  ·cases q
section
variable {X:Cx} {E:XK} {x:Str} {C:Addr} {np cpos pos p2:Pos} {z:Str} {j:Nat}
noncomputable def yr (X:Cx) (E:XK):Prop:=X.A.handled=none/\∀(pins:List (Addr×Obj)) (σ:St) (H:Hp) (s:Shared) (h1:Heap) (e:Addr) (cls:Value) (vs:List Value),Inv X pins σ H s->Heap.MadeExcOf s.heap h1 e cls vs->E cls none H->X.xe (.ref e) { s with heap:=h1 }
theorem pG (mk:yr X E) (O:Xc X.K X.mg x C) (hg:Gl X x:=by rfl) (hd:(x==("__debug__" : Str))=false:=by decide) {jj} :
  PS X (.Raise (some (.Call (.Name x np) [.Constant (.str z) jj p2] [] cpos)) none pos) (fun _ _ H=>E (.ref C) none H):=by
 intro pins s σ H D I h
 obtain ⟨bm,N,nm,q,bs,hdct,sn,sub,ab,col,dd,k0,k1,k2,k3,k5,mN,hC,hN,hni,T⟩:=Cw I.ok.mod.kin O.ex
 refine wpAny_Raise_call_subT (C:=C) (nm:=nm) (q:=q) (N:=N) (bs:=bs) (bm:=bm) (hdct:=hdct) (sn:=sn) (sub:=sub) (ab:=ab) (col:=col) (dd:=dd) (k0:=k0) (k1:=k1) (k2:=k2) (k3:=k3) (k5:=k5) (mN:=mN)
  PySem.F.excBase_ValueError (T.hasType PySem.F.excBase_ValueError.hasBase) mk.1 rfl hni (ou I hg O.bound ⟨rfl,?_⟩ hd)
 have hst:starEach [(.Constant (.str z) jj p2:Expr)] X.env=(false,eval (.Constant (.str z) jj p2) X.env)::starEach [] X.env:=rfl
 rw [hst]
 refine Calls.evalArgs_plain ?_
 refine Calls.spliced_cons (bS (zT (pos:=p2) (j:=jj) (x:=z) pins s σ H (fun _ H1=>H1=H) I rfl) fun u s1 ⟨v,H1,I1,_,e1⟩=>Calls.spliced_nil ?_)
 subst e1
 refine ⟨rfl,by show 1<=sizeLine; decide,I1.bk _ _ hC,hN.keeps I1.bk,T.keeps I1.bk,fun h1 e hm=>mk.2 pins σ H1 s1 h1 e _ _ I1 hm h⟩
end
open PySem.W (Looks)
section
variable {X:Cx} {pins pn:List (Addr×Obj)} {σ:St} {H:Hp} {s:Shared} {W:Value->Shared->Prop} {e:Addr}
end
section
variable {X:Cx} {E:XK} {body:List Stmt} {F:DS->M Out} {cn n:Str} {C:Addr} {i:Nat} {ex:Expr} {np hpos rpos pos:Pos} {k:Bool}
end
section
variable {X:Cx} {e C:Addr} {oe:Obj} {i:Nat} {n y:Str} {p p1 p2 pos:Pos} {c:Value}
theorem i7 {P:Program} {w:World}:iZ (vB P w) X E0:=fun _ _ _ _ _ _ _ ⟨_,_,_,_,_,_,_,_,h⟩=>h.elim
end
noncomputable def Jo (C CB:Addr) (good:Int->Int->Bool) (f1 f2:Str):Sp:=fun vs H Q E=>∃p dx m c,vs=[.ref p,.int m,.int c]/\H p=some (.ins C dx []) /\
 ∀H1,aD H H1->if good m c=true then Q .non (upd (upd H1 p (.ins C dx (gk f1 (.int m) []))) p (.ins C dx (gk f2 (.int c) (gk f1 (.int m) [])))) else E (.ref CB) none H1
structure Hs (P:Program) (w:World) (K:Kd) (mg:Str->Option Value) (base:Heap) (x:Str) (C CB:Addr) (good:Int->Int->Bool) (f1 f2:Str):Prop where
 ex:∃f fd ps,Mk K C f/\FnOk P w K mg base (vB P w) 1 f fd ps (Jo C CB good f1 f2)/\gh K fd ps []/\mg x=some (.ref C)
noncomputable def Iq (C CB:Addr) (good:Int->Int->Bool) (f1 f2:Str) (xs:List DV):M DV:=match xs with
 |[.d (.int m),.d (.int c)]=>if good m c=true then rt (.ob C [(f1,.int m),(f2,.int c)]) else some (.error (.ref CB))
 |_=>none
theorem EF {f1 f2:Str} (h:f1≠f2) (v u:V):gk f2 u (gk f1 v [])=[(f1,v),(f2,u)]:=by
 show (if f1=f2 then _ else _)=_
 rw [if_neg h]; rfl
section
variable {X:Cx} {E:XK} {e:Expr} {es:List Expr} {pos p:Pos} {fr:DS->M (List DV)}
theorem DQ {x:Str} {C CB:Addr} {good:Int->Int->Bool} {f1 f2:Str} (h:Hs X.prog X.w X.K X.mg X.base x C CB good f1 f2) (hf:f1≠f2) (hr:Room 2 X.A) (pass:iZ (vB X.prog X.w) X E) (ha:uS X E (e::es) fr) (hg:Gl X x:=by rfl) (hdb:(x==("__debug__" : Str))=false:=by decide)
  (he:starEach (e::es) X.env=(false,eval e X.env)::starEach es X.env:=by rfl) (hpl:(backTo pos (starEach es X.env)).any (·.1)=false:=by rfl):PX X E (.Call (.Name x p) (e::es) [] pos) (aL (Iq C CB good f1 f2) fr):=by
 obtain ⟨f,fd,ps,hM,hF,hb,hm⟩:=h.ex
 refine PE.mono (xI hM hF hr hg hm hb .nil pass ha hdb he hpl) fun σ H Q q=>lK (g:=fun _=>Iq C CB good f1 f2) q fun O P δ xs r vs H1 rs rs1 s1 rx e q=>?_
 unfold Iq at e
 split at e
 ·rename_i m c
  cases rx with
  |cons r1 rr=>
   cases rr with
   |cons r2 rr=>
    cases rr
    cases r1
    cases r2
    intro x dx nx ndx ne
    refine ⟨x,dx,m,c,rfl,aN,fun H2 s2=>?_⟩
    have sH:aD H1 H2:=fun b o q=>s2 b o (by rw [aA (bF q nx),aA (bF q ndx)]; exact q)
    split at e
    ·rename_i hgood
     rw [if_pos hgood]
     cases e
     refine ⟨rfl,q _ _ (fun b o q=>?_) ⟨x,dx,_,rfl,fun z=>?_,aN,?_⟩⟩
     ·rw [aA (bF q nx),aA (bF q nx)]; exact sH b o q
     ·obtain ⟨o,q⟩:=rs1.dom x z
      rw [nx] at q; cases q
     ·rw [EF hf]
      exact .cons ⟨rfl,.int m⟩ (.cons ⟨rfl,.int c⟩ .nil)
    ·rename_i hgood
     rw [if_neg hgood]
     cases e
     exact q none H2 sH
 ·cases e
end
theorem gq {P:Program} {w:World} {K:Kd} {mg:Str->Option Value} {base:Heap} {N:List Str} {qual:Str} {scope:Scope} {f:Addr} {cd:Value} {A:Around} {outer:List Env} {s0:Shared} {H0:Hp} {E:XK} :
  iZ (vB P w) (fu (vB P w) P w K mg base N qual scope f cd A outer s0 H0 E) E:=by
 intro pins σ H s e s' I cx
 obtain ⟨x,cls,dx,H',B,a0,rfl,Fl,hE⟩:=cx
 have hl:∀b,b∈ir (envOfC qual scope s0.heap.objs.size f cd::outer)↔b=s0.heap.objs.size\/b∈ir outer:=fun b=>by
  show b∈s0.heap.objs.size::ir outer↔_
  exact List.mem_cons
 have out:∀b o,s0.heap.get? b=some o->b∉ir outer->b∉ir (envOfC qual scope s0.heap.objs.size f cd::outer):=fun b o q n z=>by
  rcases (hl b).mp z with z|z
  ·exact Nat.ne_of_lt (J8 q) z
  ·exact n z
 have Fl:Fly P w (envOfC qual scope s0.heap.objs.size f cd::outer) s H cls x H' B a0 s':=Fl
 refine wpAny_leaves_onW (L:=s0.heap.objs.size) I.ok.frames rfl Fl.fly fun h2 f2 u=>?_
 have fr:∀b o,b∈ir outer->s'.heap.get? b=some o->∃sl,h2.get? b=some { o with slots:=sl }:=fun b o hb q=>by
  obtain ⟨_,o',e',hd⟩:=Fl.fly.2.2.1.mem (show b∈ir (envOfC qual scope s0.heap.objs.size f cd::outer) from (hl b).mpr (.inr hb))
  rw [q] at e'; cases e'
  exact u b o q hd
 have old:∀b o,s0.heap.get? b=some o->H0 b=none->b∉ir outer->B.get? b=some o:=fun b o q n hb=>
  Fl.old b o (I.base.keep b o q n hb (by simp [fu])) (I.base.free b o q n (by simp [fu])) (out b o q hb)
 have all:∀b o,s0.heap.get? b=some o->b∉ir outer->∃o',B.get? b=some o':=fun b o q hb=>by
  obtain ⟨o',r⟩:=I.base.there b o q (by simp [fu])
  exact Fl.all b o' r (out b o q hb)
 refine ⟨x,cls,dx,H',B,a0,rfl,⟨Fl.os.trans I.os,Fl.bare,f2,Fl.trk,old,all,⟨fun b o q n hb _=>f2.1 b o (old b o q n hb),fun b o q n hb _=>?_,fun b o q n _=>?_,fun b o q _=>?_,fun b xs q=>Fl.un.tups b xs (I.base.tups b xs q),fun b o xs q=>Fl.un.frzs b o xs (I.base.frzs b o xs q),fun b ps q=>?_⟩,fun b v q=>(Fl.hok b v q).stay (fun c o hc r=>?_) (fun _ q=>q) fun _ _ q=>q⟩,hE⟩
 ·obtain ⟨sl,r⟩:=I.base.slot b o q n hb (by simp [fu])
  obtain ⟨sl',r'⟩:=Fl.un.slot b _ r (I.base.free b o q n (by simp [fu])) ((hl b).mpr (.inr hb)) 0x4
  obtain ⟨sl2,r2⟩:=fr b _ hb r'
  exact ⟨sl2,r2⟩
 ·obtain ⟨o',r⟩:=I.base.there b o q (by simp [fu])
  exact Fl.un.free b o' r (I.base.free b o q n (by simp [fu])) 0x4
 ·obtain ⟨o',r⟩:=I.base.there b o q (by simp [fu])
  by_cases hb:b∈ir outer
  ·obtain ⟨o2,r2⟩:=Fl.un.there b o' r 0x4
   obtain ⟨sl,r3⟩:=fr b o2 hb r2
   exact ⟨_,r3⟩
  ·obtain ⟨o2,r2⟩:=all b o q hb
   exact ⟨o2,f2.1 b o2 r2⟩
 ·obtain ⟨m1,e1⟩:=I.base.tbls b ps q
  obtain ⟨m2,e2⟩:=Fl.un.tbls b _ e1
  exact ⟨m1++m2,by rw [e2,Array.append_assoc]⟩
 ·have ht:∃v',H' c=some v':=by
   rcases hc with z|z
   ·exact ⟨v,z▸q⟩
   ·exact ⟨_,z⟩
  obtain ⟨v',hv'⟩:=ht
  obtain ⟨o2,e2⟩:=Fl.trk c v' hv'
  have:=Fl.fly.1 c o2 e2
  rw [r] at this; cases this
  exact f2.1 c _ e2
noncomputable def Ij (n:Nat) (fm:List DV->M DV):Sp:=fun vs H Q E=>vs.length=n/\∃O xs r,(∀a,a∈O->∃o,H a=some o)/\lA O [] H H xs vs/\fm xs=some r/\Fn E O [] H H Q r
theorem EJ {P:Program} {w:World} {K:Kd} {mg:Str->Option Value} {base:Heap} {x qual:Str} {st:Stmt} {f:Addr} {fd:FuncData} {N ps:List Str} {k n:Nat} {F:DS->M Out} (Fu:Fun K x qual st f fd) (S:FnScope N ps (ao st)) (hn:ps.length=n)
  (body:∀(cdv:Value) (A:Around) (outer:List Env) (s:Shared) (H:Hp) (E:XK),Room k (A.deeper (envOfC qual (ao st) s.heap.objs.size f cdv)) ->
   y0 (fu (vB P w) P w K mg base N qual (ao st) f cdv A outer s H E) E (eS st) F):FnOk P w K mg base (vB P w) (k+1) f fd ps (Ij n (eG N F)):=by
 obtain ⟨oc,od,kV,doc,pm,an,cdv,ct,osl,rfl,lk,hcd⟩:=Fu.ex
 refine Br lk hcd S (fun vs H Q E h=>h.1.trans hn.symm) fun A outer s H vs Q E hr hsp=>⟨_,body cdv A outer s H E hr,?_⟩
 obtain ⟨_,O,xs,r,dom,rx,e,q⟩:=hsp
 rcases az e with ⟨o,e1,e2⟩|⟨c,e1,e2⟩
 ·refine ⟨O,[],nc N xs,.ok o,RS.start dom rx,e1,?_⟩
  cases o with
  |rt y=>
   cases e2
   intro v H1 H' P' k' s' _ _ ry
   obtain ⟨sH,ry'⟩:=ry.out k' s'
   exact q v H' sH ry'
  |nx δ=>
   cases e2
   intro σ' H' P' k' _
   exact q .non H' (fun b o e=>k'.keep b o 0x4 e) .none
  |bk δ=>cases e2
  |ct δ=>cases e2
 ·subst e2
  exact ⟨O,[],nc N xs,.error c,RS.start dom rx,e1,fun dx H' P' k'=>q dx H' fun b o e=>k'.keep b o 0x4 e⟩
structure HasX (P:Program) (w:World) (K:Kd) (mg:Str->Option Value) (base:Heap) (k:Nat) (x:Str) (n:Nat) (fm:List DV->M DV):Prop where
 ex:∃fn fd ps,FnOk P w K mg base (vB P w) k fn fd ps (Ij n fm)/\mg x=some (.ref fn)/\PySem.W.keepIn K (.ref fn)=true/\gh K fd ps []
theorem HasX.mono {P:Program} {w:World} {K:Kd} {mg:Str->Option Value} {base:Heap} {j k:Nat} {x:Str} {n:Nat} {fm:List DV->M DV} (h:HasX P w K mg base j x n fm) (hj:j<=k):HasX P w K mg base k x n fm:=by
 obtain ⟨fn,fd,ps,h1,h2,h3,h4⟩:=h.ex
 exact ⟨fn,fd,ps,h1.mono hj,h2,h3,h4⟩
theorem Df.hasX {P:Program} {w:World} {K:Kd} {mg:Str->Option Value} {base:Heap} {x:Str} {st:Stmt} {ps:List Str} {k n:Nat} {fm:List DV->M DV} (D:Df K mg x st ps)
  (h:∀f fd,Fun K x x st f fd->FnOk P w K mg base (vB P w) k f fd ps (Ij n fm)):HasX P w K mg base k x n fm:=by
 obtain ⟨f,fd,Fu,hm,hb⟩:=D
 exact ⟨f,fd,ps,h f fd Fu,hm,Fu.kp,hb⟩
noncomputable def bq (n:Nat) (fm:List DV->M DV) (xs:List DV):M DV:=bd (op (args xs)) fun ys=>if ys.length=n then fm ys else none
section
variable {X:Cx} {E:XK} {e:Expr} {es:List Expr} {pos p np cpos p2:Pos} {fr:DS->M (List DV)} {x:Str} {C:Addr} {z:Str} {jj:Nat}
theorem cv {k n:Nat} {fm:List DV->M DV} (F:HasX X.prog X.w X.K X.mg X.base k x n fm) (hr:Room k X.A) (pass:iZ (vB X.prog X.w) X E) (ha:uS X E (e::es) fr) (hg:Gl X x:=by rfl) (hdb:(x==("__debug__" : Str))=false:=by decide)
  (he:starEach (e::es) X.env=(false,eval e X.env)::starEach es X.env:=by rfl) (hpl:(backTo pos (starEach es X.env)).any (·.1)=false:=by rfl) :
  PX X E (.Call (.Name x p) (e::es) [] pos) (aL (bq n fm) fr):=by
 obtain ⟨fn,fd,ps,h1,h2,h3,h4⟩:=F.ex
 refine PE.mono (xc h1 hr hg h2 h3 h4 .nil pass ha hdb he hpl) fun σ H Q q=>lK (g:=fun _=>bq n fm) q fun O P δ xs r vs H1 rs rs1 s1 rx e q=>?_
 obtain ⟨ys,e1,e2⟩:=bt e
 split at e2
 ·rename_i hl
  have ry:=lA.hand rs.dom s1 rx e1
  refine ⟨?_,P++O,ys,r,fun a ha=>?_,?_,e2,?_⟩
  ·rw [List.append_nil,<-Paired.length ry]; exact hl
  ·obtain ⟨o,e'⟩:=rs.dom a ha
   exact ⟨o,s1 a o e'⟩
  ·rw [List.append_nil]; exact ry
  ·cases r with
   |ok y=>exact fun v H' s2 rv=>q v H' s2 (rv.back s1)
   |error c=>exact q
 ·cases e2
theorem lS (mk:yr X E) (O:Xc X.K X.mg x C) (hg:Gl X x:=by rfl) (hd:(x==("__debug__" : Str))=false:=by decide) :
  yc X E (.Raise (some (.Call (.Name x np) [.Constant (.str z) jj p2] [] cpos)) none pos) (fun _=>some (.error (.ref C))):=PS.mono (pG mk O hg hd) fun T σ H q=>by
 obtain ⟨O',P,δ,r,rs,e,q⟩:=q
 cases e
 exact q none H P .refl
end
theorem ma {P:Program} {w:World} {K:Kd} {mg:Str->Option Value} {base:Heap} {N:List Str} {qual:Str} {scope:Scope} {f:Addr} {cd:Value} {A:Around} {outer:List Env} {s0:Shared} {H0:Hp} {E:XK} {k:Nat}
  (hr:Room k (A.deeper (envOfC qual scope s0.heap.objs.size f cd))):yr (fu (vB P w) P w K mg base N qual scope f cd A outer s0 H0 E) E:=⟨hr.hd,fun _ _ _ _ _ _ _ _ I hm hE=>yz I hm hE⟩
open Builtin Builtin.ObjectAttr Builtin.Getset_descriptor
noncomputable def JB (x D:Addr) (h:Heap):Prop:=∃o,h.get? x=some o/\o.cls=.ref D
section
variable {prog:Program} {w:World} {A:Around} {E:Value->Shared->Prop} {s:Shared} {K:Kd} {x D:Addr}
theorem JB.ty {M:Model} {h:Heap} (I:JB x D h):Looks M h (typeOf (.ref x)) (.ref D):=by
 obtain ⟨o,e,c⟩:=I
 exact c▸(Looks.ld e).andThen .now
end
section
variable {X:Cx} {e C:Addr} {oe:Obj} {i:Nat} {n y:Str} {p p1 p2 pos:Pos} {c:Value} {b:Bool}
end
end L3
namespace L2
open PySem PySem.Spec PyProof.Rows
section
variable {X:Cx} {k:Nat} {js:List Nat} {N':List Str} {scope:Scope} {elt tg iter:Expr} {ifs:List Expr} {pos:Pos} {wi:TI} {g:TG} {tc:TT} {te:TE}
theorem BO {use:Option (Value->Sem Unit)} {Q':Value->Shared->Prop} {ip:Pos} (S:CompFit X k js N' scope) (hc:X.calm=true) (hi:PI X tg iter wi)
  (hg:∀C s₂ H₂ fp,PG (aT X N' scope C s₂ H₂ fp) tg g) (hf:∀C s₂ H₂ fp,PF (aT X N' scope C s₂ H₂ fp) ifs tc) (he:∀C s₂ H₂ fp,PE (aT X N' scope C s₂ H₂ fp) elt te)
  {pins:List (Addr×Obj)} {s:Shared} {σ:St} {H:Hp} {Q:VK} (I:Inv X pins σ H s) (h:yd wi k js g tc te σ H Q)
  (hend:∀(D C:Addr) (s4:Shared) (m:Str->Option Value),s4.heap.Ns C m->X.s₀.heap.objs.size<=C->C≠X.env.locals->(∀x c,X.env.cells.lookup x=some c->c≠C)->(∀p∈X.pn++pins,p.1≠C) ->
   (∀h',Heap.SameBut C s4.heap h'->∃H5,Inv X pins σ H5 { s4 with heap:=h' }/\H5 C=none/\Q (.ref D) H5)->compPost (model X.prog X.w) X.A X.xe use Q' (.ref D) C (.ok .next) s4)
  (hs:∀x,foldedSetIterable iter X.env x=pure x) :
  wpAny (model X.prog X.w) X.A (comprehension (.ListComp elt [⟨tg,iter,ifs,0⟩] scope pos) scope X.env ip (newList []) false (eval iter X.env) use) Q' X.xe s:=by
 refine wpAny_comprehension_free (use:=use) rfl hs (ye fun y hy hk=>I.ok.has y.1 (S.free y hy hk)) S.kind S.loc ?_
 refine bS (hi pins s σ H _ I h) fun v s1 h1=>bS h1 fun itv s₂ h2=>?_
 obtain ⟨it,fp,tn,J,H₂,rfl,I2,T,st2,f2,W,⟨m0,w0⟩,turn⟩:=h2
 have lt2:∀b∈fp,b<s₂.heap.objs.size:=fun b hb=>by obtain ⟨o,e,_⟩:=T.obj 0 _ st2 b hb; exact J8 e
 refine wpAny_newObj_type (wpAny_newFunctionEnv S.nocell (by intro y hy; simp at hy) (fun h₁ hns₁ hsb₁=>?_) S.kind)
 dsimp only at hns₁ hsb₁ ⊢
 generalize hH2:s₂.heap.push { cls:=.type "list",dict:=none,data:=.seq ([]:List Value).toArray }=G at hns₁ hsb₁ ⊢
 have hC:G.objs.size=s₂.heap.objs.size+1:=by rw [<-hH2,Heap.size_push]
 have hDC:s₂.heap.objs.size≠G.objs.size:=by lia
 have hCle:s₂.heap.objs.size<=G.objs.size:=by lia
 have old:∀b o,s₂.heap.get? b=some o->h₁.get? b=some o:=fun b o e=>hsb₁.extBut b o (g9 e hCle) (J0 _ (hH2▸J0 _ e))
 have hacc:h₁.get? s₂.heap.objs.size=some { cls:=.type "list",data:=.seq ([]:List Value).toArray }:=hsb₁.extBut _ _ hDC (J0 _ (hH2▸Heap.get?_push_size _ rfl))
 have hf2:∀b∈fp,nS X pins H₂ b/\b<s₂.heap.objs.size:=fun b hb=>⟨f2 b hb,lt2 b hb⟩
 have I0:∀tk,Inv (aT X N' scope G.objs.size s₂ H₂ fp) [] (jt k js σ) H₂ { s₂ with heap:=h₁,toks:=tk }:=fun tk=>oC I2 S hCle hf2 old hns₁
 generalize hD:s₂.heap.objs.size=D at *
 have hDnone:∀{H':Hp} {s':Shared} {σ':St} {pp:List (Addr×Obj)} {o:Obj},Inv (aT X N' scope G.objs.size s₂ H₂ fp) (pp++[(D,o)]) σ' H' s'->H' D=none/\s'.heap.get? D=some o:=fun {H' s' σ' pp o} J=>by
  have q:=J.pin (D,o) (J2 _ (J2 _ (List.mem_singleton.mpr rfl)))
  exact ⟨q.2.1,q.1⟩
 have hDfs:D∉ir X.stack:=fun z=>by
  obtain ⟨_,o,ho,_⟩:=I2.stack.mem z
  exact g9 ho (Nat.le_of_eq hD) rfl
 have hDcell:∀x c,(aT X N' scope G.objs.size s₂ H₂ fp).env.cells.lookup x=some c->c≠D:=fun x c e z=>by
  obtain ⟨v,q⟩:=I2.cell x c (bZ (fun d hd=>by simp at hd) e)
  exact dJ q.lt (Nat.le_of_eq hD) z
 have stat:∀{H':Hp} {pp:List (Addr×Obj)},(∀b∈fp,H' b=none)->(∀p∈pp,p.1=D)->∀b∈fp,nS (aT X N' scope G.objs.size s₂ H₂ fp) pp H' b:=fun {H' pp} hn hp b hb=>by
  refine ⟨hn b hb,fun z=>?_,fun z=>?_,.inl hb,fun x c e=>(hf2 b hb).1.2.2.2.2.1 x c (bZ (fun d hd=>by simp at hd) e),fun p hp' z=>?_⟩
  ·exact dJ (lt2 b hb) hCle z
  ·rcases List.mem_cons.mp (I2.stkSub b z) with e|e
   ·exact (hf2 b hb).1.2.1 e
   ·exact (hf2 b hb).1.2.2.1 e
  ·have e1:p.1=D:=hp p (by simpa [aT] using hp')
   exact dJ (lt2 b hb) (J5 _) (z.symm.trans e1)
 have pinD:∀{σ':St} {H':Hp} {s':Shared} {ys:List Value} {c:Nat},Inv (aT X N' scope G.objs.size s₂ H₂ fp) [] σ' H' s'->s'.heap.get? D=some { cls:=.type "list",data:=.seq ys.toArray c }->H' D=none ->
   Inv (aT X N' scope G.objs.size s₂ H₂ fp) [(D,{ cls:=.type "list",data:=.seq ys.toArray c })] σ' H' s':=fun {σ' H' s' ys c} J e n=>J.pins_of fun p hp=>by
  have e1:=List.mem_singleton.mp hp
  subst e1
  exact ⟨e,n,hDC,hDfs,fun v z=>by cases z⟩
 have loop:∀s₃:Shared,(∃tk,s₃={ s₂ with heap:=h₁,toks:=tk })->codeAny (model X.prog X.w) X.A (.compLoop (.ListComp elt [⟨tg,iter,ifs,0⟩] scope pos) 0 (.ref it) (.ref D) (aT X N' scope G.objs.size s₂ H₂ fp).env)
   (compPost (model X.prog X.w) X.A X.xe use Q' (.ref D) G.objs.size) s₃:=by
  rintro s₃ ⟨tk,rfl⟩
  refine qv (fun n s'=>∃i σ' H' xs ys c,Inv (aT X N' scope G.objs.size s₂ H₂ fp) [] σ' H' s'/\tn i s'.heap/\(∀b∈fp,H' b=none)/\H' D=none/\s'.heap.get? D=some { cls:=.type "list",data:=.seq ys.toArray c }/\aQ xs ys/\W i n σ' H' xs)
   ?_ m0 ⟨0,_,H₂,[],[],0,I0 tk,T.keep _ _ _ st2 fun b hb o e=>old b o e,fun b hb=>(f2 b hb).1,I2.hok.fresh 0x1,hacc,.nil,w0⟩
  rintro n s' ⟨i,σ',H',xs,ys,c,J',st',fr',nD,eD,rv,w'⟩
  have J1:=pinD J' eD nD
  rcases turn i n σ' H' xs w' with ⟨stop,hz,fin⟩|⟨go,hz,step⟩
  ·refine bS (T.done (aT X N' scope G.objs.size s₂ H₂ fp) rfl rfl rfl hc i _ s' σ' H' _ J1 (stat fr' fun p hp=>by rw [List.mem_singleton.mp hp]) st' stop) fun r s4 ⟨hr,J4⟩=>?_
   subst hr
   obtain ⟨nD4,eD4⟩:=hDnone (pp:=[]) J4
   obtain ⟨mC,hnC,_⟩:=J4.loc
   refine hend D G.objs.size s4 mC hnC (by have:=I2.sz; lia) (fun z=>dJ (Nat.lt_of_lt_of_le I2.lt 0x1) (J5 G.objs.size) z.symm) (fun x c e z=>?_) (fun p hp z=>?_) fun h' hs'=>?_
   ·obtain ⟨v,q⟩:=I2.cell x c e
    exact dJ (Nat.lt_of_lt_of_le q.lt 0x1) (J5 G.objs.size) z
   ·exact dJ (Nat.lt_of_lt_of_le (J8 (I2.pin p hp).1) 0x1) (J5 G.objs.size) z
   have keep4:∀b o,b≠G.objs.size->s4.heap.get? b=some o->h'.get? b=some o:=fun b o hb e=>hs'.extBut b o hb e
   have hC4:H' G.objs.size=none:=J4.free
   have hun:Un (ir X.stack) fp H₂ (upd H' D (.lst xs)) s₂.heap h':=by
    have u:=J4.base
    have neD:∀b o,s₂.heap.get? b=some o->b≠D:=fun b o e=>g9 e (Nat.le_of_eq hD)
    have neC:∀b o,s₂.heap.get? b=some o->b≠G.objs.size:=fun b o e=>g9 e (by rw [hD]; exact hCle)
    have neD':∀b o,H₂ b=some o->b≠D:=fun b o e=>dJ (I2.hok.lt e) (Nat.le_of_eq hD)
    refine ⟨fun b o e n hb hx=>keep4 b o (neC b o e) (u.keep b o e n hb hx),fun b o e n hb hx=>?_,fun b o e n hx=>by rw [aA (neD b o e)]; exact u.free b o e n hx,fun b o e hx=>?_,
     fun b xs e=>by rw [aA (neD' b _ e)]; exact u.tups b xs e,fun b o z e=>by rw [aA (neD' b _ e)]; exact u.frzs b o z e,fun b ps e=>by rw [aA (neD' b _ e)]; exact u.tbls b ps e⟩
    ·obtain ⟨sl,q⟩:=u.slot b o e n hb hx
     exact ⟨sl,keep4 b _ (neC b o e) q⟩
    ·obtain ⟨o',q⟩:=u.there b o e hx
     exact ⟨o',keep4 b _ (neC b o e) q⟩
   have hok4:kx X.prog X.w (upd H' D (.lst xs)) h':=by
    intro b u e
    by_cases hb:b=D
    ·subst hb
     rw [aN] at e
     cases e
     exact ⟨hz,ys,c,rv,keep4 _ _ hDC eD4⟩
    ·rw [aA hb] at e
     have hnD:∀a o,H' a=some o->a≠D:=fun a o e z=>by rw [z,nD4] at e; cases e
     refine (J4.hok b u e).stay (fun a v ha q=>keep4 a v ?_ q) (fun a q=>by rw [aA (hnD a _ q)]; exact q) fun a zs q=>by rw [aA (hnD a _ q)]; exact q
     rintro rfl
     rcases ha with z|z
     ·rw [<-z,hC4] at e; cases e
     ·rw [hC4] at z; cases z
   refine ⟨upd H' D (.lst xs),I2.call' (s':={ s4 with heap:=h' }) J4.os hun hok4 J4.bare (fun b hb=>?_),by rw [aA (Ne.symm hDC)]; exact hC4,fin D nD4⟩
   exact ⟨(f2 b hb).2.2.2.1,(f2 b hb).2.1,(f2 b hb).2.2.2.2.1,(f2 b hb).2.2.2.2.2⟩
  ·refine bS (T.item (aT X N' scope G.objs.size s₂ H₂ fp) rfl rfl rfl hc i _ s' σ' H' EX J1 (stat fr' fun p hp=>by rw [List.mem_singleton.mp hp]) st' go) fun r s4 ⟨u,hr,h4⟩=>?_
   subst hr
   refine bS h4 fun _ s5 ⟨x,H5,I5,r5,y5,st5,fr5⟩=>?_
   have I5':=I5.pinned (stat fr5 fun p hp=>by rw [List.mem_singleton.mp hp]) (T.obj _ _ st5)
   refine bS (hg _ _ _ _ _ s5 σ' H5 x u _ I5' r5 (step x H5 y5)) fun _ s6 ⟨σ6,H6,I6,q6⟩=>?_
   refine bS (hf _ _ _ _ _ s6 σ6 H6 _ I6 q6) fun ok s7 ⟨H7,I7,q7⟩=>?_
   have back:∀{σ8:St} {H8:Hp} {s8:Shared},Inv (aT X N' scope G.objs.size s₂ H₂ fp) ([(D,{ cls:=.type "list",data:=.seq ys.toArray c })]++mz fp s5.heap) σ8 H8 s8 ->
     Inv (aT X N' scope G.objs.size s₂ H₂ fp) [] σ8 H8 s8/\tn (i+1) s8.heap/\(∀b∈fp,H8 b=none)/\H8 D=none/\s8.heap.get? D=some { cls:=.type "list",data:=.seq ys.toArray c }:=fun {σ8 H8 s8} J=>by
    have pd:=J.pin (D,{ cls:=.type "list",data:=.seq ys.toArray c }) (J2 _ (J3 _ (List.mem_singleton.mpr rfl)))
    have pf:∀b∈fp,∀o,s5.heap.get? b=some o->s8.heap.get? b=some o/\H8 b=none:=fun b hb o e=>by
     have q:=J.pin (b,o) (J2 _ (J2 _ (iR hb e)))
     exact ⟨q.1,q.2.1⟩
    refine ⟨J.pins_of fun p hp=>absurd hp 0x4,T.keep _ _ _ st5 fun b hb o e=>(pf b hb o e).1,fun b hb=>?_,pd.2.1,pd.1⟩
    obtain ⟨o,e,_⟩:=T.obj _ _ st5 b hb
    exact (pf b hb o e).2
   cases ok with
   |false=>
    simp only [Bool.false_eq_true,if_false] at q7 ⊢
    obtain ⟨m',hm,w7⟩:=q7
    obtain ⟨b1,b2,b3,b4,b5⟩:=back I7
    exact ⟨m',hm,i+1,σ6,H7,xs,ys,c,b1,b2,b3,b4,b5,rv,w7⟩
   |true=>
    simp only [if_true] at q7 ⊢
    refine bS (he _ _ _ _ _ s7 σ6 H7 _ I7 q7) fun u8 s8 ⟨v8,H8,I8,r8,q8⟩=>?_
    obtain ⟨m',hm,w8⟩:=q8
    obtain ⟨b1,b2,b3,b4,b5⟩:=back I8
    refine append_at b5 (fun h9 hs9 e9=>?_) (by rw [List.size_toArray,<-rv.length]; exact Nat.le_of_lt hz)
    have I9:Inv (aT X N' scope G.objs.size s₂ H₂ fp) [] σ6 H8 { s8 with heap:=h9 }:=b1.turned (t':=s8.toks) (it:=D) (fun b o hb e=>(hs9.2 b hb).trans e) b4 hDC (.inr (by show s₂.heap.objs.size<=D; lia)) hDcell fun p hp=>absurd (show p∈([]:List (Addr×Obj)) from hp) 0x4
    refine ⟨m',hm,i+1,σ6,H8,xs++[v8],ys++[u8],c+1,I9,T.keep _ _ _ b2 fun b hb o e=>(hs9.2 b ?_).trans e,b3,b4,?_,aQ.append rv (.cons r8 .nil),w8⟩
    ·exact dJ (lt2 b hb) (J5 _)
    ·rw [e9,List.push_toArray]
 exact codeAny_compStart_list (loop _ ⟨_,rfl⟩) (T.self _ 0 _ _ _ (T.keep _ _ _ st2 fun b hb o e=>old b o e) (loop _ ⟨_,rfl⟩))
theorem Ey {i:Nat} {y:Str} {py spos:Pos} (S:CompFit X k js N' scope) (hc:X.calm=true) (hN:X.N.Nodup) (hi:X.N[i]?=some y) (hx:X.env.scope.names.lookup y=some .local) (hit:PI X tg iter wi)
  (hg:∀C s₂ H₂ fp,PG (aT X N' scope C s₂ H₂ fp) tg g) (hf:∀C s₂ H₂ fp,PF (aT X N' scope C s₂ H₂ fp) ifs tc) (he:∀C s₂ H₂ fp,PE (aT X N' scope C s₂ H₂ fp) elt te)
  (hsw:swapsWith (.ListComp elt [⟨tg,iter,ifs,0⟩] scope pos) (some (.Name y py)) spos.line X.env=pure true) (hs:∀x,foldedSetIterable iter X.env x=pure x) :
  PS X (.Assign [.Name y py] (.ListComp elt [⟨tg,iter,ifs,0⟩] scope pos) spos) (FA (yd wi k js g tc te) (oE i)):=by
 intro pins s σ H D I h
 rw [exec_Assign_Name_used _ _ _ _ hsw]
 refine J6 (wpAny_standAt (J6 ?_))
 show wpAny _ X.A (do let _ <-comprehension (.ListComp elt [⟨tg,iter,ifs,0⟩] scope pos) scope X.env _ (newList []) false (eval iter X.env) (some (assign (.Name y py) X.env))) _ _ s
 refine J6 (wpAny_mono (BO (use:=some (assign (.Name y py) X.env)) (Q':=fun _ s'=>SP X pins D .next s') S hc hit hg hf he I h (fun Dd C s4 m hn h0 h1 h2 h3 hfin=>?_) hs) (fun _ s' hq=>J7 (J7 hq)) fun _ _ e=>e)
 obtain ⟨H5,I5,n5,q5⟩:=hfin s4.heap (Heap.SameBut.refl _ _)
 show wpAny _ X.A (assign (.Name y py) X.env (.ref Dd)) _ X.xe s4
 refine wpAny_assign_Name (qV (v:=.ref Dd) I5 hN hi (.inl hx) rfl (fun s5 I6 ⟨a,hsb,ha⟩=>?_) (.inr hx))
 have haC:C≠a:=fun z=>by
  rcases ha with e|e
  ·exact h1 (z.trans e)
  ·exact h2 y a e z.symm
 refine ⟨m,hn.sameBut hsb haC,fun h' hs'=>⟨σ.set i (some (.ref Dd)),H5,?_,q5⟩⟩
 exact I6.turned (t':=s5.toks) (it:=C) (fun b o hb e=>(hs'.2 b hb).trans e) n5 h1 (.inr h0) h2 h3
end
end L2
namespace L3
open PySem PySem.Spec L2
open PyProof.Rows hiding St
section
variable {X:Cx} {E:XK} {k:Nat} {js:List Nat} {N':List Str} {scope:Scope} {elt tg iter:Expr} {ifs:List Expr} {pos py spos:Pos} {y:Str} {i:Nat} {fi:DS->M (List D)} {g:TG} {sf:D->DS->Option DS} {gc:DS->M Bool} {fe:DS->M DV}
theorem sW (S:CompFit X k js N' scope) (hj:js.Nodup) (hc:X.calm=true) (hN:X.N.Nodup) (hit:Ce X E tg iter fi) (ht:EG g sf) (hsub:∀δ d δ1,sf d (cT k js δ)=some δ1->Sub (cT k js δ) δ1)
  (hg:∀C s₂ H₂ fp,PG (aT X N' scope C s₂ H₂ fp) tg g) (hf:∀C s₂ H₂ fp,PF (aT X N' scope C s₂ H₂ fp) ifs (BC E0 gc)) (he:∀C s₂ H₂ fp,PX (aT X N' scope C s₂ H₂ fp) E0 elt fe)
  (hi:X.N[i]?=some y:=by rfl) (hx:X.env.scope.names.lookup y=some .local:=by rfl) (hsw:swapsWith (.ListComp elt [⟨tg,iter,ifs,0⟩] scope pos) (some (.Name y py)) spos.line X.env=pure true:=by rfl)
  (hs:∀x,foldedSetIterable iter X.env x=pure x:=by intro _; rfl):yc X E (.Assign [.Name y py] (.ListComp elt [⟨tg,iter,ifs,0⟩] scope pos) spos) (aW i (bb k js fi sf gc fe)):=
 PS.mono (Ey S hc hN hi hx hit hg hf he hsw hs) fun T σ H q=>rM hj ht hsub (by
  obtain ⟨O,P,δ,r,rs,e,q⟩:=q
  rcases az e with ⟨x,e1,e2⟩|⟨cx,e1,e2⟩
  ·obtain ⟨z,e3,e4⟩:=bt e2
   cases e4
   refine ⟨O,P,δ,.ok x,rs,e1,fun v H1 s1 rx=>?_⟩
   obtain ⟨P',kp,rs'⟩:=rs.asg s1 rx e3 i
   exact q _ H1 P' kp rs'
  ·subst e2
   exact ⟨O,P,δ,.error cx,rs,e1,fun dx H' s=>q dx H' P (.same s)⟩)
end
section
variable {X:Cx} {E:XK}
theorem B9 {prog:Program} {w:World} {A:Around} {E:Value->Shared->Prop} {s:Shared} {t b:Addr} {ws:List Value} {Q:Value->Shared->Prop} (ht:IsTup s.heap t #[]) (hb:IsTup s.heap b ws.toArray) (h:Q (.ref b) s):wpAny (model prog w) A (binaryOp .Add (.ref t) (.ref b)) Q E s:=by
 obtain ⟨⟨c1,d1,a1,l1⟩,o1,q1,n1,z1⟩:=id ht
 obtain ⟨⟨c2,d2,a2,l2⟩,o2,q2,n2,z2⟩:=id hb
 simp only at q1 z1 q2 z2
 subst q1 z1 q2 z2
 exact concat_meets ⟨_,o1,rfl⟩ ⟨_,o2,rfl⟩ noFill_tuple_add seq_tuple_add PySem.F.slot_tuple_add PySem.F.entry_tuple_add (PySem.F.args_tuple_add_2 _ _) (tuple_addW0 t b #[] ws.toArray n1 n2 d1 d2 l1 l2 rfl) ⟨o1,o2,h⟩
noncomputable def Ca (x y:DV):M DV:=match x,y with
 |.d (.tuple xs),.d (.tuple ys)=>if xs.length+ys.length<=1000000 then rt (.d (.tuple (xs++ys))) else none
 |_,_=>none
theorem C2:gZ X E (binaryOp .Add) Ca:=fun pins s σ O P H₀ H x y v u vv uu r Q I hd hs rx ry ev eu e q=>by
 unfold Ca at e
 split at e
 ·rename_i xs ys
  split at e
  ·rename_i hz
   cases e
   have rx':Rp (P++O) H (.tuple xs) v:=rx
   have ry':Rp (P++O) H (.tuple ys) u:=ry
   cases rx' with
   |@tup a _ vs za ha la=>
    cases ry' with
    |@tup b _ us zb hb lb=>
     cases xs with
     |nil=>
      cases la
      cases ev
      cases eu
      obtain ⟨i1,r1,p1,_⟩:=I.tuple (ka.of ha)
      obtain ⟨i2,r2,p2,_⟩:=I.tuple (ka.of hb)
      cases r1
      exact B9 p1 p2 ⟨.ref b,H,I,rfl,q _ H (aD.refl H) (.tup zb hb lb)⟩
     |cons x0 xr=>
      refine DJ pins s σ H (.ref a) (.ref b) vv uu Q I ev eu ⟨a,b,vs,us,rfl,rfl,ka.of ha,ka.of hb,fun z=>?_,eW (by rw [<-la.length,<-lb.length]; exact hz),fun z=>?_,fun z p hp=>?_⟩
      ·subst z; cases la
      ·subst z
       cases lb
       rw [List.append_nil] at q
       exact q _ H (aD.refl H) (.tup za ha la)
      ·exact q _ _ (a9 hp) (BZ hd hs hp (la.append lb))
  ·cases e
 ·cases e
noncomputable def aH:=AZ aY Ca
theorem bA:gZ X E (binaryOp .Add) aH:=bX.or C2
noncomputable def yj (xs:List DV):M DV:=match xs with
 |[x]=>match oM x with
  |some (.list ys)=>rt (.d (.tuple ys))
  |some (.tuple ys)=>rt (.d (.tuple ys))
  |_=>none
 |_=>none
theorem Aa:dS X E (.type "tuple") yj:=dS.of qL fun O P H₀ H xs vs r Q hd hs rx e q=>by
 unfold yj at e
 split at e
 ·rename_i x
  cases rx with
  |cons r1 rr=>
   cases rr
   split at e
   ·rename_i ys h
    cases e
    obtain ⟨a,ws,rfl,ha,l⟩:=r1.look.1 h
    exact ⟨a,ws,rfl,.inl ⟨gg.of ha,fun p hp=>q _ _ (a9 hp) (BZ hd hs hp l)⟩⟩
   ·rename_i ys h
    cases e
    cases x with
    |d z=>
     cases h
     have r':Rp (P++O) H (.tuple ys) _:=r1
     cases r' with
     |tup hz ha l=>exact ⟨_,_,rfl,.inr ⟨ka.of ha,q _ H (aD.refl H) (.tup hz ha l)⟩⟩
    |ob C fs=>cases h
    |fz kvs=>cases h
    |ex q=>cases h
    |tpo p xs q=>cases h
    |nwt p xs q=>cases h
    |own zs=>cases h
    |new zs=>cases h
    |scr K ns=>cases h
   ·cases e
 ·cases e
noncomputable def lr (i:Nat) (f:DS->M DV) (δ:DS):M Out:=match δ[i]? with
 |some (some (.own xs))=>bd (f δ) fun x=>match x with
  |.new ys=>if xs.length+ys.length<=1000000 then rt (.nx (δ.set i (some (.own (xs++ys))))) else none
  |.d (.list ys)=>if xs.length+ys.length<=1000000 then rt (.nx (δ.set i (some (.own (xs++ys))))) else none
  |_=>none
 |_=>none
variable {e o:Expr} {pos apos cpos:Pos} {f:DS->M DV} {i:Nat}
theorem tN (ho:PE X o (gY i)) (he:PX X E e f)
  (hbase:attributeBase o "extend" X.env (eval o X.env)=eval o X.env:=by rfl)
  (hfew:((backTo cpos (starEach [e] X.env)).all (fun x=>!x.1)&&(backToKw cpos (keywordEach [] X.env)).all (fun x=>x.1.isSome)
   && decide ([e].length+([]:List Keyword).length+(if ([]:List Keyword).isEmpty then 0 else 1)<30))=true:=by rfl)
  (hline:(apos.endLine==cpos.line)=true:=by rfl) (hs:starEach [e] X.env=(false,eval e X.env)::starEach [] X.env:=by rfl) (hplain:(backTo cpos (starEach [] X.env)).any (·.1)=false:=by rfl)
  (hsw:swapsWith (.Call (.Attribute o "extend" apos) [e] [] cpos) none pos.line X.env=pure false:=by rfl):yc X E (.Expr (.Call (.Attribute o "extend" apos) [e] [] cpos) pos) (lr i f):=
 PS.mono (lY (uv PySem.F.plainAttrs_list PySem.F.slot_list_extend PySem.F.type_list_extend yL ho (j8 he kR hs) hbase hfew hline hs hplain) hsw) fun T σ H q=>by
  obtain ⟨O,P,δ,r,rs,e,q⟩:=q
  unfold lr at e
  split at e
  ·rename_i xs ei
   obtain ⟨v,ev,_,a,vs,rfl,hP,ha,l⟩:=rs.at' i _ ei
   refine ⟨.ref a,ev,.inl ⟨rfl,_,gg.of ha⟩,?_⟩
   rcases az e with ⟨x,e1,e2⟩|⟨cx,e1,e2⟩
   ·refine ⟨O,P,δ,.ok x,rs,e1,fun u H1 s1 rx=>?_⟩
    have fin:∀ys b us,u=.ref b->H1 b=some (.lst us)->RpL (P++O) H1 ys us->xs.length+ys.length<=1000000->r=.ok (.nx (δ.set i (some (.own (xs++ys)))))->xK (.ref a) [u] H1 fun _ H2=>T.nx σ H2:=fun ys b us eu hb lb hz er=>by
     subst eu er
     have l1:=(l.kp (.same s1)).append lb
     obtain ⟨kp,rs'⟩:=(rs.same s1).grow ei ev l1 hP
     exact ⟨a,b,vs,us,rfl,rfl,s1 a _ ha,hb,eW (by rw [<-l.length,<-lb.length]; exact hz),q σ _ P ((Kp.same s1).trans kp) rs'⟩
    split at e2
    ·rename_i ys
     split at e2
     ·rename_i hz
      cases e2
      obtain ⟨b,us,eu,hb,lb⟩:=rx.list (xs:=ys) rfl
      exact fin ys b us eu hb lb hz rfl
     ·cases e2
    ·rename_i ys
     split at e2
     ·rename_i hz
      cases e2
      obtain ⟨b,us,eu,hb,lb⟩:=rx.list (xs:=ys) rfl
      exact fin ys b us eu hb lb hz rfl
     ·cases e2
    ·cases e2
   ·subst e2
    exact ⟨O,P,δ,.error cx,rs,e1,fun dx H' s=>q dx H' P (.same s)⟩
  ·cases e
noncomputable def one?:D->Option D
 |.none=>some .none
 |.bool b=>some (.bool b)
 |_=>none
noncomputable def G1:DV->D->Bool
 |.d .none,.none=>true
 |.d (.bool a),.bool b=>a==b
 |_,_=>false
noncomputable def Iy (neg:Bool) (x y:DV):M DV:=match y with
 |.d .none=>match x with
  |.scr _ _=>none
  |_=>rt (.d (.bool (if neg=true then !G1 x .none else G1 x .none)))
 |.d (.bool b)=>match x with
  |.scr _ _=>none
  |_=>rt (.d (.bool (if neg=true then !G1 x (.bool b) else G1 x (.bool b))))
 |_=>none
theorem Ad {M:Model} {A:Around} {E:Value->Shared->Prop} {s:Shared} {Q:Value->Shared->Prop} {v:Value} {b:Bool} (hv:∀i,v≠.builtin i) (h:Q (.bool (!(v==.bool b))) s):wpAny M A (compareOp .IsNot v (.bool b)) Q E s:=by
 cases v <;> first|exact J7 h|exact absurd rfl (hv _)
theorem AI {O P:List Addr} {H₀ H:Hp} {x:DV} {v:V} {vv:Value} (r:RE O P H₀ H x v) (e:br v vv):(vv==Value.none)=G1 x .none:=by
 cases x with
 |d z=>
  have r':Rp (P++O) H z v:=r
  cases r' with
  |none=>cases e; rfl
  |bool b=>cases e; rfl
  |int i=>obtain ⟨t,rfl⟩:=e; rfl
  |str x _=>obtain ⟨t,rfl⟩:=e; rfl
  |tup _ _ _=>cases e; rfl
  |lst _ _ _=>cases e; rfl
 |ob C fs=>obtain ⟨a,dx,gs,rfl,_⟩:=r; cases e; rfl
 |fz kvs=>obtain ⟨a,kv,rfl,_⟩:=r; cases e; rfl
 |ex q=>obtain rfl:=(show _=_ from r); cases e; rfl
 |tpo p xs q=>obtain ⟨t,a,ps,vs,qs,rfl,_⟩:=r; cases e; rfl
 |nwt p xs q=>obtain ⟨t,a,ps,vs,qs,rfl,_⟩:=r; cases e; rfl
 |own xs=>obtain ⟨a,vs,rfl,_⟩:=r; cases e; rfl
 |new xs=>obtain ⟨a,vs,rfl,_⟩:=r; cases e; rfl
 |scr K ns=>obtain ⟨a,rfl,_⟩:=r; cases e; rfl
theorem AD {O P:List Addr} {H₀ H:Hp} {x:DV} {v:V} {vv:Value} (b:Bool) (r:RE O P H₀ H x v) (e:br v vv):(vv==Value.bool b)=G1 x (.bool b):=by
 cases x with
 |d z=>
  have r':Rp (P++O) H z v:=r
  cases r' with
  |none=>cases e; rfl
  |bool c=>cases e; cases b <;> cases c <;> rfl
  |int i=>obtain ⟨t,rfl⟩:=e; rfl
  |str x _=>obtain ⟨t,rfl⟩:=e; rfl
  |tup _ _ _=>cases e; rfl
  |lst _ _ _=>cases e; rfl
 |ob C fs=>obtain ⟨a,dx,gs,rfl,_⟩:=r; cases e; rfl
 |fz kvs=>obtain ⟨a,kv,rfl,_⟩:=r; cases e; rfl
 |ex q=>obtain rfl:=(show _=_ from r); cases e; rfl
 |tpo p xs q=>obtain ⟨t,a,ps,vs,qs,rfl,_⟩:=r; cases e; rfl
 |nwt p xs q=>obtain ⟨t,a,ps,vs,qs,rfl,_⟩:=r; cases e; rfl
 |own xs=>obtain ⟨a,vs,rfl,_⟩:=r; cases e; rfl
 |new xs=>obtain ⟨a,vs,rfl,_⟩:=r; cases e; rfl
 |scr K ns=>obtain ⟨a,rfl,_⟩:=r; cases e; rfl
theorem Cr {O P:List Addr} {H₀ H:Hp} {x:DV} {v:V} {vv:Value} (r:RE O P H₀ H x v) (e:br v vv):∀i,vv≠.builtin i:=by
 intro i z
 subst z
 cases x with
 |d z=>
  have r':Rp (P++O) H z v:=r
  cases r' with
  |none=>cases e
  |bool c=>cases e
  |int i=>obtain ⟨t,z⟩:=e; cases z
  |str x _=>obtain ⟨t,z⟩:=e; cases z
  |tup _ _ _=>cases e
  |lst _ _ _=>cases e
 |ob C fs=>obtain ⟨a,dx,gs,rfl,_⟩:=r; cases e
 |fz kvs=>obtain ⟨a,kv,rfl,_⟩:=r; cases e
 |ex q=>obtain rfl:=(show _=_ from r); cases e
 |tpo p xs q=>obtain ⟨t,a,ps,vs,qs,rfl,_⟩:=r; cases e
 |nwt p xs q=>obtain ⟨t,a,ps,vs,qs,rfl,_⟩:=r; cases e
 |own xs=>obtain ⟨a,vs,rfl,_⟩:=r; cases e
 |new xs=>obtain ⟨a,vs,rfl,_⟩:=r; cases e
 |scr K ns=>obtain ⟨a,rfl,_⟩:=r; cases e
theorem Al:gZ X E (compareOp .IsNot) (Iy true):=fun pins s σ O P H₀ H x y v u vv uu r Q I hd hs rx ry ev eu e q=>by
 unfold Iy at e
 split at e
 ·have ry':Rp (P++O) H .none u:=ry
  cases ry'
  cases eu
  refine isnot_none_gen ?_
  rw [AI rx ev]
  cases x <;> cases e <;> exact ⟨.bl _,H,I,rfl,q _ H (aD.refl H) (.bool _)⟩
 ·rename_i b
  have ry':Rp (P++O) H (.bool b) u:=ry
  cases ry'
  cases eu
  refine Ad (Cr rx ev) ?_
  rw [AD b rx ev]
  cases x <;> cases e <;> exact ⟨.bl _,H,I,rfl,q _ H (aD.refl H) (.bool _)⟩
 ·cases e
end
section
variable {X:Cx} {E:XK} {a b e o:Expr} {fa fb fo fe:DS->M DV} {pos:Pos}
noncomputable def CZ (x:DV):M Bool:=bd (op (mj x)) fun ys=>rt (!ys.isEmpty)
theorem B8 (h:PX X E e fe) (he:∀whole,isTrue e X.env whole=(do let v <-whole; standAt e.pos; holding [v] (truthy v)):=by intro _; rfl):PB X E e (fun δ=>bd (fe δ) CZ):=
 PT.mono (B5 h he) fun σ H Q q=>tj (g:=fun _=>CZ) q fun O P δ x r v H1 rs rs1 s1 rx e' q'=>by
  obtain ⟨ys,h1,h2⟩:=bt e'
  cases h2
  obtain ⟨a,ws,rfl,ha,l⟩:=rx.list h1
  refine ⟨!ys.isEmpty,.inl ⟨ws,gg.of ha,?_⟩,q' H1 (aD.refl H1)⟩
  cases l <;> rfl
end
open PySem PySem.Spec L2 PySem.SeqAt PySem.MeetsSeq
noncomputable abbrev IV (its:Array Value) (c:Nat):Obj:={ cls:=.type "list",dict:=none,data:=.seq its c,slots:=#[] }
noncomputable abbrev Ia (l:Addr) (its:Array Value) (c:Nat) (x:Value) (q:Value->Bool) (j:Nat):PySem.Spec:=fun A R s=>s.heap.get? l=some (IV its c)/\(∀y,y∈its->EqAt A.in1 s y x (q y))/\R (.ok (.ret .none)) { s with heap:=s.heap.update l (Obj.mapSeq fun zs=>zs.eraseIdxIfInBounds j) }
theorem Aq (l:Addr) (its:Array Value) (c:Nat) (x:Value) (q:Value->Bool) (j:Nat) (hj:j<its.size) (yes:q its[j]=true) (hz:its.size<=sizeLine):∀k i:Nat,j-i=k->i<=j->(∀m (hm:m<its.size),i<=m->m<j->q its[m]=false) ->
  Meets (Builtin.«list.remove.loop» ⟨[.ref l,x,rawInt i],[]⟩) (Ia l its c x q j):=by
 intro k
 induction k with
 |zero=>
  intro i k0 le no prog w A R s ⟨at_,eqs,fin⟩
  obtain ⟨hp,gs,dr,tk,os⟩:=s
  obtain rfl:i=j:=by lia
  wp_walk using AutoSeq1.wpAny_loadPart' at_
  rw [show its[((i:Nat):Int).toNat]?=some its[i] by simp [hj]]
  refine J6 (eqs _ (Array.getElem_mem hj) prog w _ _ ?_); rw [yes]
  have few:(its.eraseIdxIfInBounds i).size<=sizeLine+1:=Nat.le_trans (size_erased its _) (Nat.le_succ_of_le hz)
  wp_walk using (wpAny_updateSeq at_ rfl (hz:=hz) (_hz':=few)),AutoSeq1.wpAny_loadPart' at_
  simpa using fin
 |succ k ih=>
  intro i k1 le no prog w A R s ⟨at_,eqs,fin⟩
  obtain ⟨hp,gs,dr,tk,os⟩:=s
  have lt:i<its.size:=by lia
  wp_walk using AutoSeq1.wpAny_loadPart' at_
  rw [show its[((i:Nat):Int).toNat]?=some its[i] by simp [lt]]
  refine J6 (eqs _ (Array.getElem_mem lt) prog w _ _ ?_); rw [no i lt (J5 _) 0x1]
  wp_walk
  rw [show ((i:Int)+1)=((i+1:Nat):Int) by push_cast; rfl]
  refine ⟨plainId_quiet plain_remove_loop _,codeAny_builtin entry_remove_loop ?_⟩
  rw [Around.under_plainId plain_remove_loop _]; exact ih (i+1) 0x1 0x1 (fun m hm h1 h2=>no m hm 0x1 h2) prog w A R _ ⟨at_,eqs,fin⟩
theorem Fh (l:Addr) (its:Array Value) (c:Nat) (x:Value) (q:Value->Bool) (j:Nat) (hj:j<its.size) (yes:q its[j]=true) (no:∀m (hm:m<its.size),m<j->q its[m]=false) (hz:its.size<=sizeLine):Meets (Builtin.«list.remove» ⟨[.ref l,x],[]⟩) (Ia l its c x q j):=by
 intro prog w A R s ⟨at_,eqs,fin⟩
 obtain ⟨hp,gs,dr,tk,os⟩:=s
 wp_walk using AutoSeq1.wpAny_loadPart' at_
 refine ⟨plainId_quiet plain_remove_loop _,codeAny_builtin entry_remove_loop ?_⟩
 rw [Around.under_plainId plain_remove_loop _]; exact Aq l its c x q j hj yes hz _ 0 rfl (Nat.zero_le _) (fun m hm _ h2=>no m hm h2) prog w A R _ ⟨at_,eqs,fin⟩
section
variable {X:Cx} {E:XK} {e o:Expr} {f:DS->M DV} {pos:Pos}
noncomputable def Jc (x:V) (vs:List V) (H:Hp) (Q:VK):Prop:=∃O P H₀ l ys ws dy v d j,x=.ref l/\vs=[v]/\H l=some (.lst ws)/\RpL (P++O) H ys ws/\RE O P H₀ H dy v/\oM dy=some d/\d.depth<=60/\ys.findIdx? (fun z=>PyData.eqv z d)=some j/\Q .non (upd H l (.lst (ws.eraseIdx j)))
theorem zw (hu:X.A.units+64<cLine):Je X "list.remove" Jc:=fun pins s σ H x xs v us Q I rx rs h=>by
 obtain ⟨O,P,H₀,a,ys,ws,dy,w,d,j,rfl,rfl,ha,l,r2,h2,hdp,hj,q⟩:=h
 obtain ⟨u,rfl,ru⟩:=qf rs
 cases rx
 obtain ⟨z,its,n,r,hl,e⟩:=I.lstM ha
 obtain ⟨⟨as,ra⟩,la⟩:=r2.reads I ru h2
 obtain ⟨bs,rb⟩:=RpL.reads I l r
 have hm:its.map (readOf s.heap)=ys:=SeqAt.readsAll_map ys _ _ l.lay rb
 rw [List.findIdx?_eq_some_iff_getElem] at hj
 obtain ⟨hj1,hj2,hj3⟩:=hj
 subst hm
 have hj':j<its.toArray.size:=by simpa using hj1
 refine call_meets PySem.F.slot_list_remove ⟨_,e,rfl⟩ PySem.F.entry_list_remove (PySem.F.args_list_remove_2 _ _) (Fh a its.toArray n u (fun y=>PyData.eqv (readOf s.heap y) d) j hj' (by simpa using hj2) (fun m hm lt=>by simpa using hj3 m lt) (by rw [List.size_toArray]; lia))
  ⟨e,SeqAt.items_eqAt (vs:=its.toArray) rb ra l.lay la (by have:=Nat.min_le_right (PyData.depthAll (its.map (readOf s.heap))) d.depth; lia),?_⟩
 refine ⟨.non,_,I.lset (its':=its.eraseIdx j) ha e ?_ (r.eraseIdx j) ?_,rfl,q⟩
 ·show its.toArray.eraseIdxIfInBounds j=(its.eraseIdx j).toArray
  rw [List.eraseIdxIfInBounds_toArray]
 ·have:=qO ws j
  lia
noncomputable def zt (i:Nat) (f:DS->M DV) (δ:DS):M Out:=match δ[i]? with
 |some (some (.own xs))=>bd (f δ) fun x=>bd (op (oM x)) fun d=>if d.depth<=60 then bd (op (xs.findIdx? fun z=>PyData.eqv z d)) fun j=>rt (.nx (δ.set i (some (.own (xs.eraseIdx j))))) else none
 |_=>none
theorem RpL.erase {Z:List Addr} {H:Hp}:∀{xs:List D} {vs:List V} (j:Nat),RpL Z H xs vs->RpL Z H (xs.eraseIdx j) (vs.eraseIdx j)
 |_,_,_,.nil=>by simp; exact .nil
 |_,_,0,.cons p l=>l
 |_,_,j+1,.cons p l=>.cons p (RpL.erase j l)
theorem Gx {i:Nat} {apos cpos:Pos} (hu:X.A.units+64<cLine) (ho:PE X o (gY i)) (he:PX X E e f)
  (hbase:attributeBase o "remove" X.env (eval o X.env)=eval o X.env:=by rfl)
  (hfew:((backTo cpos (starEach [e] X.env)).all (fun x=>!x.1)&&(backToKw cpos (keywordEach [] X.env)).all (fun x=>x.1.isSome)
   && decide ([e].length+([]:List Keyword).length+(if ([]:List Keyword).isEmpty then 0 else 1)<30))=true:=by rfl)
  (hline:(apos.endLine==cpos.line)=true:=by rfl) (hs:starEach [e] X.env=(false,eval e X.env)::starEach [] X.env:=by rfl) (hplain:(backTo cpos (starEach [] X.env)).any (·.1)=false:=by rfl)
  (hsw:swapsWith (.Call (.Attribute o "remove" apos) [e] [] cpos) none pos.line X.env=pure false:=by rfl):yc X E (.Expr (.Call (.Attribute o "remove" apos) [e] [] cpos) pos) (zt i f):=
 PS.mono (lY (uv PySem.F.plainAttrs_list PySem.F.slot_list_remove PySem.F.type_list_remove (zw hu) ho (j8 he kR hs) hbase hfew hline hs hplain) hsw) fun T σ H q=>by
  obtain ⟨O,P,δ,r,rs,e,q⟩:=q
  unfold zt at e
  split at e
  ·rename_i xs ei
   obtain ⟨v,ev,_,a,vs,rfl,hP,ha,l⟩:=rs.at' i _ ei
   refine ⟨.ref a,ev,.inl ⟨rfl,_,gg.of ha⟩,?_⟩
   rcases az e with ⟨x,e1,e2⟩|⟨cx,e1,e2⟩
   ·obtain ⟨d,e3,e4⟩:=bt e2
    split at e4
    ·rename_i hz
     obtain ⟨j,e5,e6⟩:=bt e4
     cases e6
     refine ⟨O,P,δ,.ok x,rs,e1,fun u H1 s1 rx=>?_⟩
     have l1:=(l.kp (.same s1))
     obtain ⟨k,rs'⟩:=(rs.same s1).grow ei ev (l1.erase j) hP
     exact ⟨O,P,_,a,xs,vs,x,u,d,j,rfl,rfl,s1 a _ ha,l1,rx,e3,hz,e5,q σ _ P ((Kp.same s1).trans k) rs'⟩
    ·cases e4
   ·subst e2
    exact ⟨O,P,δ,.error cx,rs,e1,fun dx H' s=>q dx H' P (.same s)⟩
  ·cases e
end
section
variable {X:Cx} {E:XK} {o e:Expr} {fo fe:DS->M DV} {pos:Pos}
end
noncomputable def mv:List DV->Option (List D×List D×List D)
 |[]=>none
 |.own xs::r=>(dX r).map fun q=>([],xs,q)
 |x::r=>match vx x,mv r with
  |some d,some (p,xs,q)=>some (d::p,xs,q)
  |_,_=>none
theorem lA.split {O P:List Addr} {H H':Hp} (dom:∀a,a∈P++O->∃o,H a=some o):∀{xs:List DV} {vs:List V} {p ys q:List D},lA O P H H' xs vs->mv xs=some (p,ys,q)->∃a ps us qs,vs=ps++.ref a::qs/\a∈P/\H' a=some (.lst us)/\RpL (P++O) H' p ps/\RpL (P++O) H' ys us/\RpL (P++O) H' q qs
 |[],_,_,_,_,_,h=>by cases h
 |x::r,v::vs,p,ys,q,.cons r1 t,h=>by
  have gen:(match vx x,mv r with
   |some d,some (p,xs,q)=>some (d::p,xs,q)
   |_,_=>none)=some (p,ys,q)->∃a ps us qs,v::vs=ps++.ref a::qs/\a∈P/\H' a=some (.lst us)/\RpL (P++O) H' p ps/\RpL (P++O) H' ys us/\RpL (P++O) H' q qs:=fun h=>by
   split at h
   ·rename_i d p' xs' q' h1 h2
    cases h
    obtain ⟨a,ps,us,qs,e,hP,ha,l1,l2,l3⟩:=lA.split dom t h2
    exact ⟨a,_::ps,us,qs,by rw [e]; rfl,hP,ha,.cons (r1.data dom h1) l1,l2,l3⟩
   ·cases h
  cases x with
  |own zs=>
   unfold mv at h
   cases hd:dX r with
   |none=>rw [hd] at h; cases h
   |some ds=>
    rw [hd] at h
    cases h
    obtain ⟨a,vs,rfl,hP,ha,l⟩:=r1
    exact ⟨a,[],vs,_,rfl,hP,ha,.nil,l,lA.data dom t hd⟩
  |d z=>exact gen h
  |new z=>exact gen h
  |ob C fs=>exact gen h
  |fz kvs=>exact gen h
  |ex z=>exact gen h
  |tpo p xs z=>exact gen h
  |nwt p xs z=>exact gen h
  |scr K ns=>exact gen h
section
variable {X:Cx} {E:XK} {a b e o:Expr} {es:List Expr} {fa fb f fe:DS->M DV} {fr:DS->M (List DV)} {gc:DS->M Bool} {pos:Pos}
noncomputable def Bm (fr:DS->M (List DV)) (δ:DS):M DV:=bd (fr δ) fun xs=>bd (op (mv xs)) fun t=>if xs.length<=1000000 then rt (.tpo t.1 t.2.1 t.2.2) else none
theorem DL {k:Nat} (h:uS X E es fr):PX X E (.Tuple es k pos) (Bm fr):=PE.mono (vQ h) fun σ H Q q=>lK (g:=fun _ xs=>bd (op (mv xs)) fun t=>if xs.length<=1000000 then rt (.tpo t.1 t.2.1 t.2.2) else none) q fun O P δ xs r vs H1 rs rs1 s1 rx e q=>by
 obtain ⟨⟨p,ys,qq⟩,hd,e⟩:=bt e
 split at e
 ·rename_i hz
  cases e
  obtain ⟨a,ps,us,qs,e1,hP,ha,l1,l2,l3⟩:=lA.split rs.dom rx hd
  refine ⟨eW (by rw [<-Paired.length rx]; exact hz),fun t ht=>q _ _ (a9 ht) ?_⟩
  have k:Kp (P++O) H1 (P++O) (upd H1 t (.tup vs)):=.same (a9 ht)
  refine ⟨t,a,ps,us,qs,rfl,fun h=>?_,by rw [aN,e1],hP,a9 ht a _ ha,l1.kp k,l2.kp k,l3.kp k⟩
  obtain ⟨o,q⟩:=rs1.dom t h
  rw [q] at ht; cases ht
 ·cases e
noncomputable def AQ:DV->DV
 |.nwt p xs q=>.d (.tuple (p++.list xs::q))
 |x=>x
noncomputable def kZ (f:DS->M DV) (δ:DS):M DV:=bd (f δ) fun x=>rt (AQ x)
theorem oO (h:PX X E e f):PX X E e (kZ f):=PE.mono h fun σ H Q q=>lE (g:=fun _ x=>rt (AQ x)) q fun O P δ x r v H1 rs rs1 s1 rx e q=>by
 cases e
 refine q v H1 (aD.refl H1) ?_
 cases x with
 |nwt p xs qq=>
  obtain ⟨t,a,ps,vs,qs,rfl,hz,ht,hn,ha,l1,l2,l3⟩:=rx
  have sb:∀b,b∈P++O->b∈a::(P++O):=fun b hb=>JY _ hb
  refine Rp.tup (fun h=>hz (sb t h)) ht (RpL.append (l1.kp (.sub sb)) (.cons (Rp.lst (fun h=>?_) ha (l2.kp (.sub sb))) (l3.kp (.sub sb))))
  obtain ⟨o,z⟩:=rs.dom a h
  rw [hn] at z; cases z
 |d x=>exact rx
 |ob C fs=>exact rx
 |fz kvs=>exact rx
 |ex z=>exact rx
 |tpo p xs z=>exact rx
 |own xs=>exact rx
 |new xs=>exact rx
 |scr K ns=>exact rx
theorem FF (i:Nat) (h:PB X E e gc):PB X E e (fun δ=>gc (frz i δ)):=PT.mono h fun σ H Q q=>by
 obtain ⟨O,P,δ,r,rs,e,q⟩:=q
 obtain ⟨P',hP,rs'⟩:=rs.frz i
 exact ⟨O,P',frz i δ,r,rs',e,q⟩
end
section
variable {X:Cx} {E:XK}
noncomputable def nH:List D->Option (List Int)
 |[]=>some []
 |.int i::r=>(nH r).map (i::·)
 |_::_=>none
theorem mQ:∀{xs:List D} {ns:List Int},nH xs=some ns->xs=ns.map PyData.int
 |[],ns,h=>by cases h; rfl
 |x::r,ns,h=>by
  cases x with
  |int b=>
   unfold nH at h
   cases e:nH r with
   |none=>rw [e] at h; cases h
   |some cs=>rw [e] at h; cases h; rw [mQ e]; rfl
  |_=>cases h
theorem qX (ns:List Int):nH (ns.map PyData.int)=some ns:=by
 induction ns with
 |nil=>rfl
 |cons b r ih=>rw [List.map_cons,nH,ih]; rfl
noncomputable def C1 (xs:List DV):M DV:=match xs with
 |[x]=>bd (op (mj x)) fun ys=>bd (op (nH ys)) fun ns=>rt (.d (.int ns.sum))
 |_=>none
theorem gu {Z:List Addr} {H:Hp}:∀{ns:List Int} {vs:List V} {us:List Value},RpL Z H (ns.map PyData.int) vs->aQ vs us->∃ps:List (Int×Tok),us=ps.map (fun p=>Value.int p.1 p.2)/\ps.map (·.1)=ns
 |[],_,_,.nil,.nil=>⟨[],rfl,rfl⟩
 |b::r,_,_,.cons p l,.cons q t=>by
  cases p
  obtain ⟨tk,rfl⟩:=q
  obtain ⟨ps,e1,e2⟩:=gu l t
  exact ⟨(b,tk)::ps,by rw [e1]; rfl,by rw [List.map_cons,e2]⟩
theorem E7:bootBuiltins "sum" = some (.builtin "sum"):=by decide +kernel
theorem Gn (hc:X.calm=true):dS X E (.builtin "sum") C1:=fun pins s σ O P H₀ H xs vs us r Q I hd hs rx rv e q=>by
 unfold C1 at e
 split at e
 ·obtain ⟨ys,e1,e2⟩:=bt e
  obtain ⟨ns,e3,e4⟩:=bt e2
  cases e4
  cases rx with
  |cons r1 rr=>
   cases rr
   obtain ⟨a,ws,rfl,ha,l⟩:=r1.list e1
   cases rv with
   |cons q1 q2=>
    cases q2
    cases q1
    have hys:=mQ e3
    subst hys
    obtain ⟨its,ri,pl,hz⟩:=I.list (gg.of ha)
    obtain ⟨ps,hits,hns⟩:=gu l ri
    have hlist:=pl.isList
    have hl:s.heap.IsList a (intItems ps.toArray):=by
     have:its.toArray=intItems ps.toArray:=by rw [hits]; simp [intItems]
     rw [<-this]; exact hlist
    refine sum_intListG (I.ok.hd hc) hl fun h' tk t' hk=>?_
    have hsum:preSum (numAt ps.toArray) ps.toArray.size=ns.sum:=by
     rw [preSum_eq,List.take_of_length_le 0x4]
     rw [<-hns]
    rw [hsum]
    exact ⟨.int _,H,I.kept (t':=tk) fun b ob eb=>hk b ob eb,⟨_,rfl⟩,q _ H (aD.refl H) (.int _)⟩
 ·cases e
end
section
variable {X:Cx} {E:XK} {e:Expr} {fe:DS->M DV} {pos p:Pos}
end
section
variable {X:Cx} {E:XK} {o e e1 e2 c:Expr} {f fk fe f1 f2:DS->M DV} {gc:DS->M Bool} {F:DS->M Out} {pos:Pos}
noncomputable def JO (W:DS->M Out):Out->M Out
 |.nx δ=>W δ
 |.ct δ=>W δ
 |.bk δ=>rt (.nx δ)
 |.rt x=>rt (.rt x)
noncomputable def zE (gc:DS->M Bool) (F:DS->M Out):Nat->DS->M Out
 |0,_=>none
 |n+1,δ=>bd (gc δ) fun k=>if k=true then bd (F δ) (JO (zE gc F n)) else rt (.nx δ)
theorem zI (n:Nat) {body:List Stmt} (hp:PassesOwn (model X.prog X.w) X.A X.env X.xe) (hc:PB X E c gc) (hb:y0 X E body F):yc X E (.While c body [] pos) (zE gc F n):=
 PS.mono (zX hp hc hb) fun T σ H q=>by
  refine ⟨fun m σ H=>∃O P δ r,RS O P H σ δ/\zE gc F m δ=some r/\DH E O P H T r,⟨n,q⟩,fun m σ H w=>?_⟩
  obtain ⟨O,P,δ,r,rs,e,q⟩:=w
  cases m with
  |zero=>cases e
  |succ m=>
   unfold zE at e
   rcases az e with ⟨k,e1,e2⟩|⟨cx,e1,e2⟩
   ·refine ⟨O,P,δ,.ok k,rs,e1,fun H1 s1=>?_⟩
    cases k with
    |false=>
     cases e2
     exact uM (q σ H1 P (.same s1) (rs.same s1))
    |true=>
     refine vb ⟨fun σ' H'=>∃O P δ r,RS O P H' σ' δ/\zE gc F m δ=some r/\DH E O P H' T r,fun σ' H' h=>⟨m,Nat.lt_succ_self m,h⟩,?_⟩
     rw [if_pos rfl] at e2
     have q1:=q.on (Kp.same (Z:=P) s1)
     rcases az e2 with ⟨o,e3,e4⟩|⟨cx,e3,e4⟩
     ·refine ⟨O,P,δ,.ok o,rs.same s1,e3,?_⟩
      cases o with
      |nx δ'=>exact fun σ' H' P' k' rs'=>⟨O,P',δ',r,rs',e4,q1.on k'⟩
      |ct δ'=>exact fun σ' H' P' k' rs'=>⟨O,P',δ',r,rs',e4,q1.on k'⟩
      |bk δ'=>cases e4; exact fun σ' H' P' k' rs'=>q1 σ' H' P' k' rs'
      |rt x=>cases e4; exact q1
     ·subst e4
      exact ⟨O,P,δ,.error cx,rs.same s1,e3,q1⟩
   ·subst e2
    exact ⟨O,P,δ,.error cx,rs,e1,fun dx H' s=>q dx H' P (.same s)⟩
end
end L3
namespace LW
open PySem PySem.Spec L2 L3
noncomputable def good (m c:Int):Bool:=decide (3<=m)&&decide (m<=13)&&(decide (1<=c)&&decide (c<=4))
noncomputable def FH (C CB:Addr) (fr:DS->M (List DV)):DS->M DV:=aL (Iq C CB good "most" "colours") fr
noncomputable def rV (C:Addr):DS->M Out:=(aZ (nP (zD lg lg (eC (.int 1)) (e2 bN (af 1) (eC (.int 0))) (ft C "most" (af 0))) (zD lg fJ (eC (.int 0)) (e2 bN (af 1) (eC (.int 1))) (ft C "colours" (af 0)))))
noncomputable def bR (C:Addr):List DV->M DV:=eG ["house", "tile"] (rV C)
noncomputable def ib:DS->M Out:=(aZ (aL qz (aa (bb 1 [0] (qI (aa (eC (.int 1)) (aa (aL dF (aa (af 0) aj)) aj))) (ar 0) bY (e2 lg (e2 bN (af 1) (e2 gSub (af 0) (eC (.int 1)))) (e2 bN (af 1) (af 0)))) aj)))
noncomputable def bj:List DV->M DV:=eG ["row"] (ib)
noncomputable def rP (C:Addr):DS->M Out:=(bE (fQ (DF (fun δ=>bd (e2 Cd (aL dF (aa (af 1) aj)) (eC (.int 12)) δ) bI) (gP (fun δ=>bd (zD lg lg (eC (.int 0)) (af 2) (eC (.int 2)) δ) bI))) (aZ (eC (.bool false))) bP) (bE (fQ (gP (fun δ=>bd ((aL qz (aa (bb 1 [0,1] (kG (af 1)) (ar 0) bY (nP (aL (ax 2 (bR C)) (aa (af 1) (aa (af 0) aj))) (e2 lg (iO (af 2) (af 0)) (eC (.int 2))))) aj)) δ) bI)) (aZ (eC (.bool false))) bP) (aZ (aL (ax 1 (bj)) (aa (af 1) aj)))))
noncomputable def ik (C:Addr):List DV->M DV:=eG ["house", "hand", "jokers"] (rP C)
noncomputable def jy (K:Kd):DS->M Out:=(bE (fQ (fun δ=>bd (e2 fJ (af 1) (aL (vi K) (aa (af 0) aj)) δ) bI) (aZ (e2 (Ac K) (af 0) (af 1))) bP) (aZ (eC (.int 0))))
noncomputable def aF (K:Kd):List DV->M DV:=eG ["script", "k"] (jy K)
noncomputable def pK:DS->M Out:=(bE (aW 3 (cC (aa (eC (.int 48271)) (aa (eC (.int 69621)) (aa (eC (.int 16807)) (aa (eC (.int 39373)) (aa (eC (.int 30269)) (aa (eC (.int 40014)) (aa (eC (.int 40692)) (aa (eC (.int 50021)) (aa (eC (.int 61687)) (aa (eC (.int 71993)) (aa (eC (.int 83869)) (aa (eC (.int 95561)) (aa (eC (.int 30307)) aj))))))))))))))) (bE (aW 4 (e2 aY (e2 aY (e2 fq (e2 aY (e2 jT (af 0) (eC (.int 2147483647))) (eC (.int 12345))) (e2 bN (af 3) (e2 jT (af 1) (eC (.int 13))))) (e2 fq (eC (.int 977)) (af 1))) (e2 fq (eC (.int 7919)) (e2 BY (af 1) (eC (.int 13)))))) (bE (aW 4 (e2 jT (af 4) (eC (.int 1000000007)))) (aZ (e2 jT (e2 BY (e2 jT (e2 aY (e2 fq (af 4) (af 4)) (e2 fq (eC (.int 48271)) (af 1))) (eC (.int 1000000007))) (eC (.int 7))) (af 2))))))
noncomputable def aw:List DV->M DV:=eG ["cell", "k", "many", "some", "stir"] (pK)
noncomputable def jm (K:Kd):DS->M Out:=(bE (aW 1 (aL (ax 2 (aF K)) (aa (af 0) (aa (eC (.int 0)) aj)))) (aZ (bf (aa (e2 aY (eC (.int 3)) (aL (ax 3 (aw)) (aa (af 1) (aa (eC (.int 1)) (aa (e2 bN (cC (aa (eC (.int 4)) (aa (eC (.int 4)) (aa (eC (.int 4)) (aa (eC (.int 11)) aj))))) (aL (ax 3 (aw)) (aa (af 1) (aa (eC (.int 2)) (aa (eC (.int 4)) aj))))) aj))))) (aa (e2 aY (eC (.int 1)) (aL (ax 3 (aw)) (aa (af 1) (aa (eC (.int 3)) (aa (eC (.int 4)) aj))))) aj)))))
noncomputable def dh (K:Kd):List DV->M DV:=eG ["script", "cell"] (jm K)
noncomputable def jW:DS->M Out:=(bE (aW 2 (cC aj)) (bE (dZ (kG (af 0)) (ar 3) (fQ (jo (fun δ=>bd (e2 fJ (iO (af 2) (af 3)) (eC (.int 2)) δ) bI) (fun δ=>bd (e2 fJ (aL dF (aa (af 2) aj)) (af 1) δ) bI)) (kr 2 (af 3)) bP)) (aZ (aL kY (aa (af 2) aj)))))
noncomputable def cb:List DV->M DV:=eG ["tiles", "limit", "found", "tile"] (jW)
noncomputable def jr (K:Kd):DS->M Out:=(bE (aW 5 (cC aj)) (bE (dZ (qW (aa (eC (.int 3)) aj)) (ar 6) (bE (aW 7 (aL (ax 2 (aF K)) (aa (af 0) (aa (e2 aY (af 1) (af 6)) aj)))) (bE (Cn (kn 2 (cm (ar 8) (cm (ar 9) kM))) (bf (aa (e2 aY (eC (.int 1)) (aL (ax 3 (aw)) (aa (af 7) (aa (eC (.int 1)) (aa (af 2) aj))))) (aa (aL (ax 3 (aw)) (aa (af 7) (aa (eC (.int 2)) (aa (af 3) aj)))) aj)))) (bE (aW 10 (e2 aY (eC (.int 2)) (aL (ax 3 (aw)) (aa (af 7) (aa (eC (.int 3)) (aa (eC (.int 4)) aj)))))) (bE (fQ (fun δ=>bd (e2 (g7 false) (aL (ax 3 (aw)) (aa (af 7) (aa (eC (.int 4)) (aa (eC (.int 2)) aj)))) (eC (.int 0)) δ) bI) (aW 5 (e2 aY (af 5) (bb 1 [9] (qI (aa (af 8) (aa (e2 aY (aL sL (aa (af 2) (aa (e2 gSub (e2 aY (af 8) (af 10)) (eC (.int 1))) aj))) (eC (.int 1))) aj))) (ar 0) bY (bf (aa (af 0) (aa (af 1) aj)))))) (aW 5 (e2 aY (af 5) (bb 1 [8,7] (qW (aa (af 3) aj)) (ar 0) (fun δ=>bd (e2 Cd (aL (ax 3 (aw)) (aa (af 2) (aa (e2 aY (eC (.int 10)) (af 0)) (aa (eC (.int 4)) aj)))) (eC (.int 0)) δ) bI) (bf (aa (af 1) (aa (af 0) aj))))))) (fQ (fun δ=>bd (e2 (g7 false) (aL (ax 3 (aw)) (aa (af 7) (aa (eC (.int 5)) (aa (eC (.int 3)) aj)))) (eC (.int 0)) δ) bI) (kr 5 (bf (aa (e2 aY (eC (.int 1)) (aL (ax 3 (aw)) (aa (af 7) (aa (eC (.int 6)) (aa (af 2) aj))))) (aa (aL (ax 3 (aw)) (aa (af 7) (aa (eC (.int 7)) (aa (af 3) aj)))) aj)))) bP)))))) (bE (fQ (fun δ=>bd (e2 (g7 false) (aL dF (aa (af 5) aj)) (eC (.int 0)) δ) bI) (aW 5 (cC (aa (bf (aa (eC (.int 1)) (aa (eC (.int 0)) aj))) aj))) bP) (bE (fQ (fun δ=>bd (e2 (g7 false) (e2 jT (aL (ax 2 (aF K)) (aa (af 0) (aa (e2 aY (af 1) (eC (.int 3))) aj))) (eC (.int 9))) (eC (.int 7)) δ) bI) (aZ (cC aj)) bP) (fun δ=>(aZ (aL (ax 2 (cb)) (aa (af 5) (aa (e2 aY (eC (.int 1)) (e2 jT (aL (ax 2 (aF K)) (aa (af 0) (aa (e2 aY (af 1) (eC (.int 3))) aj))) (af 4))) aj)))) (frz 5 δ))))))
noncomputable def dA (K:Kd):List DV->M DV:=eG ["script", "start", "most", "colours", "limit", "tiles", "k", "cell", "number", "colour", "size"] (jr K)
theorem AU (a b:Bool):(if a=true then rt (DV.d (.bool b)) else rt (DV.d (.bool false)))=rt (.d (.bool (a&&b))):=by cases a <;> rfl
theorem yn (a b:Bool):(if a=true then rt b else rt false)=(rt (a&&b):M Bool):=by cases a <;> rfl
theorem Aw (a b:Bool):(if a=true then rt true else rt b)=(rt (a||b):M Bool):=by cases a <;> rfl
theorem Bb (a b:Bool):(if a=true then rt (DV.d (.bool true)) else rt (DV.d (.bool b)))=rt (.d (.bool (a||b))):=by cases a <;> rfl
noncomputable def cp (ns:List Int) (k:Int):Int:=if k<(ns.length:Int) then (atI ns k).getD 0 else 0
theorem AH {α:Type} {xs:List α} {i:Int} (h0:0<=i) (h1:i<(xs.length:Int)):∃x,atI xs i=some x:=by
 unfold atI Ci
 rw [if_pos h0,if_pos h1]
 exact ⟨xs[i.toNat]'0x1,0x4⟩
theorem Bv (K:Kd) (ns:List Int):vi K [.scr K ns]=rt (.d (.int ns.length)):=by
 unfold vi
 exact if_pos rfl
theorem Du (K:Kd) (ns:List Int) (i:Int):Ac K (.scr K ns) (.d (.int i))=bd (op (atI ns i)) fun n=>rt (.d (.int n)):=by
 unfold Ac
 exact if_pos rfl
theorem AY (K:Kd) (ns:List Int) (k:Int) (h:0<=k):aF K [.scr K ns,.d (.int k)]=rt (.d (.int (cp ns k))):=by
 unfold aF jy cp
 simp only [eG,nc,bE,aW,aZ,fQ,bP,Cn,kJ,FV,af,eC,e2,aa,aj,bf,cC,aL,ax,L3.args_nil,vJ,og,pU,oQ,mr,sA,mn,Option.map_some,aE,Bp,sD,aR,wR,wd,wX,vA,tu,tU,Bn,sG,sd,vG,vD,sC,pR,ph,xC,gP,jo,DF,nP,F7,wV,zD,ft,List.map_cons,List.map_nil,List.length_cons,List.length_nil,List.replicate,List.cons_append,List.nil_append,List.append_nil,List.getElem?_cons_zero,List.getElem?_cons_succ,List.set_cons_zero,List.set_cons_succ,Option.join_some,Nat.reduceAdd,Nat.reduceSub,Nat.reduceLeDiff,Nat.reduceEqDiff,if_true,if_false,ite_true,ite_false,Bool.not_true,Bool.not_false,Bool.false_eq_true,Nat.zero_add,xf,ow,zL,tY,nX,qU,se,si,cN,oJ,dE,tQ,sS,lO,iS,dw,pJ,AU,yn,Aw,Bb]
 rw [Bv]
 simp only [eG,nc,bE,aW,aZ,fQ,bP,Cn,kJ,FV,af,eC,e2,aa,aj,bf,cC,aL,ax,L3.args_nil,vJ,og,pU,oQ,mr,sA,mn,Option.map_some,aE,Bp,sD,aR,wR,wd,wX,vA,tu,tU,Bn,sG,sd,vG,vD,sC,pR,ph,xC,gP,jo,DF,nP,F7,wV,zD,ft,List.map_cons,List.map_nil,List.length_cons,List.length_nil,List.replicate,List.cons_append,List.nil_append,List.append_nil,List.getElem?_cons_zero,List.getElem?_cons_succ,List.set_cons_zero,List.set_cons_succ,Option.join_some,Nat.reduceAdd,Nat.reduceSub,Nat.reduceLeDiff,Nat.reduceEqDiff,if_true,if_false,ite_true,ite_false,Bool.not_true,Bool.not_false,Bool.false_eq_true,Nat.zero_add,xf,ow,zL,tY,nX,qU,se,si,cN,oJ,dE,tQ,sS,lO,iS,dw,pJ,AU,yn,Aw,Bb]
 by_cases hk:k<(ns.length:Int)
 ·obtain ⟨x,hx⟩:=AH h hk
  rw [decide_eq_true hk,Du,hx,if_pos hk]
  simp only [eG,nc,bE,aW,aZ,fQ,bP,Cn,kJ,FV,af,eC,e2,aa,aj,bf,cC,aL,ax,L3.args_nil,vJ,og,pU,oQ,mr,sA,mn,Option.map_some,aE,Bp,sD,aR,wR,wd,wX,vA,tu,tU,Bn,sG,sd,vG,vD,sC,pR,ph,xC,gP,jo,DF,nP,F7,wV,zD,ft,List.map_cons,List.map_nil,List.length_cons,List.length_nil,List.replicate,List.cons_append,List.nil_append,List.append_nil,List.getElem?_cons_zero,List.getElem?_cons_succ,List.set_cons_zero,List.set_cons_succ,Option.join_some,Nat.reduceAdd,Nat.reduceSub,Nat.reduceLeDiff,Nat.reduceEqDiff,if_true,if_false,ite_true,ite_false,Bool.not_true,Bool.not_false,Bool.false_eq_true,Nat.zero_add,xf,ow,zL,tY,nX,qU,se,si,cN,oJ,dE,tQ,sS,lO,iS,dw,pJ,AU,yn,Aw,Bb]
  rfl
 ·rw [decide_eq_false hk,if_neg hk]
  simp only [eG,nc,bE,aW,aZ,fQ,bP,Cn,kJ,FV,af,eC,e2,aa,aj,bf,cC,aL,ax,L3.args_nil,vJ,og,pU,oQ,mr,sA,mn,Option.map_some,aE,Bp,sD,aR,wR,wd,wX,vA,tu,tU,Bn,sG,sd,vG,vD,sC,pR,ph,xC,gP,jo,DF,nP,F7,wV,zD,ft,List.map_cons,List.map_nil,List.length_cons,List.length_nil,List.replicate,List.cons_append,List.nil_append,List.append_nil,List.getElem?_cons_zero,List.getElem?_cons_succ,List.set_cons_zero,List.set_cons_succ,Option.join_some,Nat.reduceAdd,Nat.reduceSub,Nat.reduceLeDiff,Nat.reduceEqDiff,if_true,if_false,ite_true,ite_false,Bool.not_true,Bool.not_false,Bool.false_eq_true,Nat.zero_add,xf,ow,zL,tY,nX,qU,se,si,cN,oJ,dE,tQ,sS,lO,iS,dw,pJ,AU,yn,Aw,Bb]
theorem Fq {i:Int} (h0:0<=i) (h1:i<13):∃x:Int,atI ([.int 48271,.int 69621,.int 16807,.int 39373,.int 30269,.int 40014,.int 40692,.int 50021,.int 61687,.int 71993,.int 83869,.int 95561,.int 30307]:List D) i=some (.int x)/\0<x/\x<100000:=by
 obtain ⟨n,rfl⟩:=Int.eq_ofNat_of_zero_le h0
 have hn:n<13:=by lia
 match n,hn with
 |0,_|1,_|2,_|3,_|4,_|5,_|6,_|7,_|8,_|9,_|10,_|11,_|12,_=>exact ⟨_,rfl,0x3,0x3⟩
theorem C4 {xs:List D} {i:Int} {x:D} (h:atI xs i=some x):bN (.own xs) (.d (.int i))=rt (.d x):=by
 unfold bN
 simp only [h,aR,aE]
theorem Ei {xs:List D} {i:Int} {x:D} (h:atI xs i=some x):bN (.new xs) (.d (.int i))=rt (.d x):=by
 unfold bN
 simp only [h,aR,aE]
theorem aK {xs:List D} {i:Int} {x:D} (h:atI xs i=some x):bN (.d (.tuple xs)) (.d (.int i))=rt (.d x):=by
 unfold bN
 simp only [h,aR,aE]
theorem iY {xs:List D} {i:Int} {x:D} (h:atI xs i=some x):bN (.d (.list xs)) (.d (.int i))=rt (.d x):=by
 unfold bN
 simp only [h,aR,aE]
theorem tV {i j:Int} (h:0<=i) (h':i<18446744073709551616):wY i j=true:=by
 unfold wY
 have a:decide (-(2 ^ 64)<i)=true:=decide_eq_true 0x1
 have b:decide (i<2 ^ 64)=true:=decide_eq_true 0x1
 rw [a,b]; rfl
theorem F3 {i j:Int} (h:0<=j) (h':j<18446744073709551616):wY i j=true:=by
 unfold wY
 have a:decide (-(2 ^ 64)<j)=true:=decide_eq_true 0x1
 have b:decide (j<2 ^ 64)=true:=decide_eq_true 0x1
 rw [a,b,Bool.and_true,Bool.or_true]
theorem vf (cell k many:Int) (hm:0<many):∃r,aw [.d (.int cell),.d (.int k),.d (.int many)]=rt (.d (.int r))/\0<=r/\r<many:=by
 unfold aw pK
 simp only [eG,nc,bE,aW,aZ,fQ,bP,Cn,kJ,FV,af,eC,e2,aa,aj,bf,cC,aL,ax,L3.args_nil,vJ,og,pU,oQ,mr,sA,mn,Option.map_some,aE,Bp,sD,aR,wR,wd,wX,vA,tu,tU,Bn,sG,sd,vG,vD,sC,pR,ph,xC,gP,jo,DF,nP,F7,wV,zD,ft,List.map_cons,List.map_nil,List.length_cons,List.length_nil,List.replicate,List.cons_append,List.nil_append,List.append_nil,List.getElem?_cons_zero,List.getElem?_cons_succ,List.set_cons_zero,List.set_cons_succ,Option.join_some,Nat.reduceAdd,Nat.reduceSub,Nat.reduceLeDiff,Nat.reduceEqDiff,if_true,if_false,ite_true,ite_false,Bool.not_true,Bool.not_false,Bool.false_eq_true,Nat.zero_add,xf,ow,zL,tY,nX,qU,se,si,cN,oJ,dE,tQ,sS,lO,iS,dw,pJ,AU,yn,Aw,Bb]
 rw [eR 0x3,eR 0x3,u5 0x3 0x3]
 obtain ⟨x,hx,x0,x1⟩:=Fq (Int.emod_nonneg k (by decide:(13:Int)≠0)) (Int.emod_lt_of_pos k (by decide:(0:Int)<13))
 simp only [eG,nc,bE,aW,aZ,fQ,bP,Cn,kJ,FV,af,eC,e2,aa,aj,bf,cC,aL,ax,L3.args_nil,vJ,og,pU,oQ,mr,sA,mn,Option.map_some,aE,Bp,sD,aR,wR,wd,wX,vA,tu,tU,Bn,sG,sd,vG,vD,sC,pR,ph,xC,gP,jo,DF,nP,F7,wV,zD,ft,List.map_cons,List.map_nil,List.length_cons,List.length_nil,List.replicate,List.cons_append,List.nil_append,List.append_nil,List.getElem?_cons_zero,List.getElem?_cons_succ,List.set_cons_zero,List.set_cons_succ,Option.join_some,Nat.reduceAdd,Nat.reduceSub,Nat.reduceLeDiff,Nat.reduceEqDiff,if_true,if_false,ite_true,ite_false,Bool.not_true,Bool.not_false,Bool.false_eq_true,Nat.zero_add,xf,ow,zL,tY,nX,qU,se,si,cN,oJ,dE,tQ,sS,lO,iS,dw,pJ,AU,yn,Aw,Bb]
 rw [C4 hx]
 simp only [eG,nc,bE,aW,aZ,fQ,bP,Cn,kJ,FV,af,eC,e2,aa,aj,bf,cC,aL,ax,L3.args_nil,vJ,og,pU,oQ,mr,sA,mn,Option.map_some,aE,Bp,sD,aR,wR,wd,wX,vA,tu,tU,Bn,sG,sd,vG,vD,sC,pR,ph,xC,gP,jo,DF,nP,F7,wV,zD,ft,List.map_cons,List.map_nil,List.length_cons,List.length_nil,List.replicate,List.cons_append,List.nil_append,List.append_nil,List.getElem?_cons_zero,List.getElem?_cons_succ,List.set_cons_zero,List.set_cons_succ,Option.join_some,Nat.reduceAdd,Nat.reduceSub,Nat.reduceLeDiff,Nat.reduceEqDiff,if_true,if_false,ite_true,ite_false,Bool.not_true,Bool.not_false,Bool.false_eq_true,Nat.zero_add,xf,ow,zL,tY,nX,qU,se,si,cN,oJ,dE,tQ,sS,lO,iS,dw,pJ,AU,yn,Aw,Bb]
 rw [gG (F3 0x1 0x1),gG (tV 0x3 0x3),gG (tV 0x3 0x3)]
 simp only [eG,nc,bE,aW,aZ,fQ,bP,Cn,kJ,FV,af,eC,e2,aa,aj,bf,cC,aL,ax,L3.args_nil,vJ,og,pU,oQ,mr,sA,mn,Option.map_some,aE,Bp,sD,aR,wR,wd,wX,vA,tu,tU,Bn,sG,sd,vG,vD,sC,pR,ph,xC,gP,jo,DF,nP,F7,wV,zD,ft,List.map_cons,List.map_nil,List.length_cons,List.length_nil,List.replicate,List.cons_append,List.nil_append,List.append_nil,List.getElem?_cons_zero,List.getElem?_cons_succ,List.set_cons_zero,List.set_cons_succ,Option.join_some,Nat.reduceAdd,Nat.reduceSub,Nat.reduceLeDiff,Nat.reduceEqDiff,if_true,if_false,ite_true,ite_false,Bool.not_true,Bool.not_false,Bool.false_eq_true,Nat.zero_add,xf,ow,zL,tY,nX,qU,se,si,cN,oJ,dE,tQ,sS,lO,iS,dw,pJ,AU,yn,Aw,Bb]
 rw [eR 0x3]
 simp only [eG,nc,bE,aW,aZ,fQ,bP,Cn,kJ,FV,af,eC,e2,aa,aj,bf,cC,aL,ax,L3.args_nil,vJ,og,pU,oQ,mr,sA,mn,Option.map_some,aE,Bp,sD,aR,wR,wd,wX,vA,tu,tU,Bn,sG,sd,vG,vD,sC,pR,ph,xC,gP,jo,DF,nP,F7,wV,zD,ft,List.map_cons,List.map_nil,List.length_cons,List.length_nil,List.replicate,List.cons_append,List.nil_append,List.append_nil,List.getElem?_cons_zero,List.getElem?_cons_succ,List.set_cons_zero,List.set_cons_succ,Option.join_some,Nat.reduceAdd,Nat.reduceSub,Nat.reduceLeDiff,Nat.reduceEqDiff,if_true,if_false,ite_true,ite_false,Bool.not_true,Bool.not_false,Bool.false_eq_true,Nat.zero_add,xf,ow,zL,tY,nX,qU,se,si,cN,oJ,dE,tQ,sS,lO,iS,dw,pJ,AU,yn,Aw,Bb]
 generalize hs:((cell % 2147483647+12345)*x+977*k+7919*(k / 13)) % 1000000007=st
 have s0:0<=st:=by rw [<-hs]; exact Int.emod_nonneg _ 0x3
 have s1:st<1000000007:=by rw [<-hs]; exact Int.emod_lt_of_pos _ 0x3
 rw [gG (tV s0 0x1),gG (tV 0x3 0x3)]
 simp only [eG,nc,bE,aW,aZ,fQ,bP,Cn,kJ,FV,af,eC,e2,aa,aj,bf,cC,aL,ax,L3.args_nil,vJ,og,pU,oQ,mr,sA,mn,Option.map_some,aE,Bp,sD,aR,wR,wd,wX,vA,tu,tU,Bn,sG,sd,vG,vD,sC,pR,ph,xC,gP,jo,DF,nP,F7,wV,zD,ft,List.map_cons,List.map_nil,List.length_cons,List.length_nil,List.replicate,List.cons_append,List.nil_append,List.append_nil,List.getElem?_cons_zero,List.getElem?_cons_succ,List.set_cons_zero,List.set_cons_succ,Option.join_some,Nat.reduceAdd,Nat.reduceSub,Nat.reduceLeDiff,Nat.reduceEqDiff,if_true,if_false,ite_true,ite_false,Bool.not_true,Bool.not_false,Bool.false_eq_true,Nat.zero_add,xf,ow,zL,tY,nX,qU,se,si,cN,oJ,dE,tQ,sS,lO,iS,dw,pJ,AU,yn,Aw,Bb]
 rw [eR 0x3]
 simp only [eG,nc,bE,aW,aZ,fQ,bP,Cn,kJ,FV,af,eC,e2,aa,aj,bf,cC,aL,ax,L3.args_nil,vJ,og,pU,oQ,mr,sA,mn,Option.map_some,aE,Bp,sD,aR,wR,wd,wX,vA,tu,tU,Bn,sG,sd,vG,vD,sC,pR,ph,xC,gP,jo,DF,nP,F7,wV,zD,ft,List.map_cons,List.map_nil,List.length_cons,List.length_nil,List.replicate,List.cons_append,List.nil_append,List.append_nil,List.getElem?_cons_zero,List.getElem?_cons_succ,List.set_cons_zero,List.set_cons_succ,Option.join_some,Nat.reduceAdd,Nat.reduceSub,Nat.reduceLeDiff,Nat.reduceEqDiff,if_true,if_false,ite_true,ite_false,Bool.not_true,Bool.not_false,Bool.false_eq_true,Nat.zero_add,xf,ow,zL,tY,nX,qU,se,si,cN,oJ,dE,tQ,sS,lO,iS,dw,pJ,AU,yn,Aw,Bb]
 rw [u5 0x3 0x3]
 simp only [eG,nc,bE,aW,aZ,fQ,bP,Cn,kJ,FV,af,eC,e2,aa,aj,bf,cC,aL,ax,L3.args_nil,vJ,og,pU,oQ,mr,sA,mn,Option.map_some,aE,Bp,sD,aR,wR,wd,wX,vA,tu,tU,Bn,sG,sd,vG,vD,sC,pR,ph,xC,gP,jo,DF,nP,F7,wV,zD,ft,List.map_cons,List.map_nil,List.length_cons,List.length_nil,List.replicate,List.cons_append,List.nil_append,List.append_nil,List.getElem?_cons_zero,List.getElem?_cons_succ,List.set_cons_zero,List.set_cons_succ,Option.join_some,Nat.reduceAdd,Nat.reduceSub,Nat.reduceLeDiff,Nat.reduceEqDiff,if_true,if_false,ite_true,ite_false,Bool.not_true,Bool.not_false,Bool.false_eq_true,Nat.zero_add,xf,ow,zL,tY,nX,qU,se,si,cN,oJ,dE,tQ,sS,lO,iS,dw,pJ,AU,yn,Aw,Bb]
 rw [eR hm]
 simp only [eG,nc,bE,aW,aZ,fQ,bP,Cn,kJ,FV,af,eC,e2,aa,aj,bf,cC,aL,ax,L3.args_nil,vJ,og,pU,oQ,mr,sA,mn,Option.map_some,aE,Bp,sD,aR,wR,wd,wX,vA,tu,tU,Bn,sG,sd,vG,vD,sC,pR,ph,xC,gP,jo,DF,nP,F7,wV,zD,ft,List.map_cons,List.map_nil,List.length_cons,List.length_nil,List.replicate,List.cons_append,List.nil_append,List.append_nil,List.getElem?_cons_zero,List.getElem?_cons_succ,List.set_cons_zero,List.set_cons_succ,Option.join_some,Nat.reduceAdd,Nat.reduceSub,Nat.reduceLeDiff,Nat.reduceEqDiff,if_true,if_false,ite_true,ite_false,Bool.not_true,Bool.not_false,Bool.false_eq_true,Nat.zero_add,xf,ow,zL,tY,nX,qU,se,si,cN,oJ,dE,tQ,sS,lO,iS,dw,pJ,AU,yn,Aw,Bb]
 exact ⟨_,rfl,Int.emod_nonneg _ 0x1,Int.emod_lt_of_pos _ hm⟩
theorem Ex (K:Kd) (ns:List Int):∃m c,dh K [.scr K ns]=rt (.d (.tuple [.int m,.int c]))/\3<=m/\m<=13/\1<=c/\c<=4:=by
 unfold dh jm
 simp only [eG,nc,bE,aW,aZ,fQ,bP,Cn,kJ,FV,af,eC,e2,aa,aj,bf,cC,aL,ax,L3.args_nil,vJ,og,pU,oQ,mr,sA,mn,Option.map_some,aE,Bp,sD,aR,wR,wd,wX,vA,tu,tU,Bn,sG,sd,vG,vD,sC,pR,ph,xC,gP,jo,DF,nP,F7,wV,zD,ft,List.map_cons,List.map_nil,List.length_cons,List.length_nil,List.replicate,List.cons_append,List.nil_append,List.append_nil,List.getElem?_cons_zero,List.getElem?_cons_succ,List.set_cons_zero,List.set_cons_succ,Option.join_some,Nat.reduceAdd,Nat.reduceSub,Nat.reduceLeDiff,Nat.reduceEqDiff,if_true,if_false,ite_true,ite_false,Bool.not_true,Bool.not_false,Bool.false_eq_true,Nat.zero_add,xf,ow,zL,tY,nX,qU,se,si,cN,oJ,dE,tQ,sS,lO,iS,dw,pJ,AU,yn,Aw,Bb]
 rw [AY K ns 0 0x3]
 simp only [eG,nc,bE,aW,aZ,fQ,bP,Cn,kJ,FV,af,eC,e2,aa,aj,bf,cC,aL,ax,L3.args_nil,vJ,og,pU,oQ,mr,sA,mn,Option.map_some,aE,Bp,sD,aR,wR,wd,wX,vA,tu,tU,Bn,sG,sd,vG,vD,sC,pR,ph,xC,gP,jo,DF,nP,F7,wV,zD,ft,List.map_cons,List.map_nil,List.length_cons,List.length_nil,List.replicate,List.cons_append,List.nil_append,List.append_nil,List.getElem?_cons_zero,List.getElem?_cons_succ,List.set_cons_zero,List.set_cons_succ,Option.join_some,Nat.reduceAdd,Nat.reduceSub,Nat.reduceLeDiff,Nat.reduceEqDiff,if_true,if_false,ite_true,ite_false,Bool.not_true,Bool.not_false,Bool.false_eq_true,Nat.zero_add,xf,ow,zL,tY,nX,qU,se,si,cN,oJ,dE,tQ,sS,lO,iS,dw,pJ,AU,yn,Aw,Bb]
 obtain ⟨r1,h1,a1,b1⟩:=vf (cp ns 0) 2 4 0x3
 rw [h1]
 simp only [eG,nc,bE,aW,aZ,fQ,bP,Cn,kJ,FV,af,eC,e2,aa,aj,bf,cC,aL,ax,L3.args_nil,vJ,og,pU,oQ,mr,sA,mn,Option.map_some,aE,Bp,sD,aR,wR,wd,wX,vA,tu,tU,Bn,sG,sd,vG,vD,sC,pR,ph,xC,gP,jo,DF,nP,F7,wV,zD,ft,List.map_cons,List.map_nil,List.length_cons,List.length_nil,List.replicate,List.cons_append,List.nil_append,List.append_nil,List.getElem?_cons_zero,List.getElem?_cons_succ,List.set_cons_zero,List.set_cons_succ,Option.join_some,Nat.reduceAdd,Nat.reduceSub,Nat.reduceLeDiff,Nat.reduceEqDiff,if_true,if_false,ite_true,ite_false,Bool.not_true,Bool.not_false,Bool.false_eq_true,Nat.zero_add,xf,ow,zL,tY,nX,qU,se,si,cN,oJ,dE,tQ,sS,lO,iS,dw,pJ,AU,yn,Aw,Bb]
 have hx:∃x:Int,atI ([.int 4,.int 4,.int 4,.int 11]:List D) r1=some (.int x)/\4<=x/\x<=11:=by
  obtain ⟨n,rfl⟩:=Int.eq_ofNat_of_zero_le a1
  have hn:n<4:=by lia
  match n,hn with
  |0,_|1,_|2,_|3,_=>exact ⟨_,rfl,0x3,0x3⟩
 obtain ⟨x,hx,x4,x11⟩:=hx
 rw [Ei hx]
 simp only [eG,nc,bE,aW,aZ,fQ,bP,Cn,kJ,FV,af,eC,e2,aa,aj,bf,cC,aL,ax,L3.args_nil,vJ,og,pU,oQ,mr,sA,mn,Option.map_some,aE,Bp,sD,aR,wR,wd,wX,vA,tu,tU,Bn,sG,sd,vG,vD,sC,pR,ph,xC,gP,jo,DF,nP,F7,wV,zD,ft,List.map_cons,List.map_nil,List.length_cons,List.length_nil,List.replicate,List.cons_append,List.nil_append,List.append_nil,List.getElem?_cons_zero,List.getElem?_cons_succ,List.set_cons_zero,List.set_cons_succ,Option.join_some,Nat.reduceAdd,Nat.reduceSub,Nat.reduceLeDiff,Nat.reduceEqDiff,if_true,if_false,ite_true,ite_false,Bool.not_true,Bool.not_false,Bool.false_eq_true,Nat.zero_add,xf,ow,zL,tY,nX,qU,se,si,cN,oJ,dE,tQ,sS,lO,iS,dw,pJ,AU,yn,Aw,Bb]
 obtain ⟨r2,h2,a2,b2⟩:=vf (cp ns 0) 1 x 0x1
 obtain ⟨r3,h3,a3,b3⟩:=vf (cp ns 0) 3 4 0x3
 rw [h2,h3]
 simp only [eG,nc,bE,aW,aZ,fQ,bP,Cn,kJ,FV,af,eC,e2,aa,aj,bf,cC,aL,ax,L3.args_nil,vJ,og,pU,oQ,mr,sA,mn,Option.map_some,aE,Bp,sD,aR,wR,wd,wX,vA,tu,tU,Bn,sG,sd,vG,vD,sC,pR,ph,xC,gP,jo,DF,nP,F7,wV,zD,ft,List.map_cons,List.map_nil,List.length_cons,List.length_nil,List.replicate,List.cons_append,List.nil_append,List.append_nil,List.getElem?_cons_zero,List.getElem?_cons_succ,List.set_cons_zero,List.set_cons_succ,Option.join_some,Nat.reduceAdd,Nat.reduceSub,Nat.reduceLeDiff,Nat.reduceEqDiff,if_true,if_false,ite_true,ite_false,Bool.not_true,Bool.not_false,Bool.false_eq_true,Nat.zero_add,xf,ow,zL,tY,nX,qU,se,si,cN,oJ,dE,tQ,sS,lO,iS,dw,pJ,AU,yn,Aw,Bb]
 exact ⟨_,_,rfl,0x1,0x1,0x1,0x1⟩
noncomputable def pr (p:Int×Int):D:=.tuple [.int p.1,.int p.2]
theorem lz (p q:Int×Int):PyData.eqv (pr p) (pr q)=decide (p=q):=by
 obtain ⟨a,b⟩:=p
 obtain ⟨c,d⟩:=q
 show PyData.eqvAll ([a,b].map PyData.int) ([c,d].map PyData.int)=_
 rw [pA]
 simp
theorem xN:∀ps qs:List (Int×Int),PyData.eqvAll (ps.map pr) (qs.map pr)=decide (ps=qs)
 |[],[]=>rfl
 |[],_::_=>rfl
 |_::_,[]=>rfl
 |p::ps,q::qs=>by
  rw [List.map_cons,List.map_cons,PyData.eqvAll,lz,xN ps qs]
  by_cases h:p=q
  ·subst h; simp
  ·simp [h]
theorem GX {p q:Int×Int} (h:pr p=pr q):p=q:=by
 have:=lz p q
 rw [h,lz] at this
 simpa using this.symm
theorem rD:∀ps:List (Int×Int),PyData.depthAll (ps.map pr)<=1
 |[]=>by decide
 |p::ps=>by
  rw [List.map_cons,PyData.depthAll]
  have h1:(pr p).depth=1:=rfl
  have h2:=rD ps
  lia
noncomputable def le (p q:Int×Int):Bool:=!(ll [q.1,q.2] [p.1,p.2])
theorem Hw (p q:Int×Int):cD false (pr p) (pr q)=some (le p q):=by
 obtain ⟨a,b⟩:=p
 obtain ⟨c,d⟩:=q
 show cL false [.int a,.int b] [.int c,.int d]=some (!(HT.lexLt [c,d] [a,b]))
 unfold cL
 have e1:PyData.eqv (.int a) (.int c)=(a==c):=rfl
 have e2:PyData.eqv (.int b) (.int d)=(b==d):=rfl
 rw [e1,HT.lexLt_cons,HT.lexLt_cons]
 by_cases h:a=c
 ·subst h
  rw [if_pos (beq_self_eq_true a),if_pos rfl]
  unfold cL
  rw [e2]
  by_cases h':b=d
  ·subst h'
   rw [if_pos (beq_self_eq_true b),if_pos rfl]
   rfl
  ·rw [if_neg (by simpa using h'),if_neg (Ne.symm h')]
   show some (decide (b<=d))=_
   congr 1
   by_cases hb:b<=d
   ·simp [hb]
   ·simp [hb]; lia
 ·rw [if_neg (by simpa using h),if_neg (Ne.symm h)]
  show some (decide (a<=c))=_
  congr 1
  by_cases hb:a<=c
  ·simp [hb]
  ·simp [hb]; lia
theorem Dh (p q:Int×Int):lg (.d (pr p)) (.d (pr q))=rt (.d (.bool (le p q))):=by
 have h:lg (.d (pr p)) (.d (pr q))=gC false (.d (pr p)) (.d (pr q)):=rfl
 rw [h]
 show (if (pr p).depth<=60 then bd (op (cD false (pr p) (pr q))) (fun k=>rt (DV.d (.bool k))) else none)=_
 rw [if_pos (show (pr p).depth<=60 from (by decide:1<=60)),Hw]
 rfl
theorem vd {fe:DS->M DV} {δ:DS} {g:D->D}:∀{xs:List D},(∀d∈xs,fe (δ.set 0 (some (.d d)))=rt (.d (g d)))->cO (ar 0) bY fe δ xs=some (xs.map g)
 |[],_=>rfl
 |d::r,h=>by
  have h1:=h d JZ
  have ih:=vd (xs:=r) fun e he=>h e (JY _ he)
  unfold cO
  simp only [ar,bY,rt]
  rw [h1,ih]
  rfl
theorem l6 {bs:List Bool}:qz [.new (bs.map PyData.bool)]=rt (.d (.bool (bs.all id))):=by
 unfold qz
 simp only [nX,aR,aE,yF]
noncomputable def aX (m c:Int) (p:Int×Int):Bool:=decide (1<=p.1)&&decide (p.1<=m)&&(decide (0<=p.2)&&decide (p.2<c))
noncomputable def hs (C:Addr) (m c:Int):DV:=.ob C [("most",.int m),("colours",.int c)]
theorem iF (C:Addr) (m c:Int):Af C "most" (hs C m c)=rt (.d (.int m)):=by
 show (if C=C then bd (op (List.lookup ("most" : Str) [(("most" : Str),PyData.int m),("colours",.int c)])) fun d=>rt (DV.d d) else none)=_
 rw [if_pos rfl,List.lookup_cons]
 simp only [beq_self_eq_true]
 rfl
theorem gn (C:Addr) (m c:Int):Af C "colours" (hs C m c)=rt (.d (.int c)):=by
 show (if C=C then bd (op (List.lookup ("colours" : Str) [(("most" : Str),PyData.int m),("colours",.int c)])) fun d=>rt (DV.d d) else none)=_
 rw [if_pos rfl,List.lookup_cons]
 have h:(("colours" : Str) == "most")=false:=by decide +kernel
 rw [h]
 simp only [List.lookup_cons,beq_self_eq_true]
 rfl
theorem CU (C:Addr) (m c:Int) (r:List DV):args (hs C m c::r)=(args r).map (hs C m c::·):=og _ _ _
theorem Bz (C:Addr) (m c:Int) (p:Int×Int):bR C [hs C m c,.d (pr p)]=rt (.d (.bool (aX m c p))):=by
 unfold bR rV
 simp only [eG,nc,bE,aW,aZ,fQ,bP,Cn,kJ,FV,af,eC,e2,aa,aj,bf,cC,aL,ax,L3.args_nil,vJ,og,pU,oQ,mr,sA,mn,Option.map_some,aE,Bp,sD,aR,wR,wd,wX,vA,tu,tU,Bn,sG,sd,vG,vD,sC,pR,ph,xC,gP,jo,DF,nP,F7,wV,zD,ft,List.map_cons,List.map_nil,List.length_cons,List.length_nil,List.replicate,List.cons_append,List.nil_append,List.append_nil,List.getElem?_cons_zero,List.getElem?_cons_succ,List.set_cons_zero,List.set_cons_succ,Option.join_some,Nat.reduceAdd,Nat.reduceSub,Nat.reduceLeDiff,Nat.reduceEqDiff,if_true,if_false,ite_true,ite_false,Bool.not_true,Bool.not_false,Bool.false_eq_true,Nat.zero_add,xf,ow,zL,tY,nX,qU,se,si,cN,oJ,dE,tQ,sS,lO,iS,dw,pJ,AU,yn,Aw,Bb]
 have g0:bN (.d (pr p)) (.d (.int 0))=rt (.d (.int p.1)):=aK rfl
 have g1:bN (.d (pr p)) (.d (.int 1))=rt (.d (.int p.2)):=aK rfl
 rw [g0,g1,iF,gn]
 simp only [eG,nc,bE,aW,aZ,fQ,bP,Cn,kJ,FV,af,eC,e2,aa,aj,bf,cC,aL,ax,L3.args_nil,vJ,og,pU,oQ,mr,sA,mn,Option.map_some,aE,Bp,sD,aR,wR,wd,wX,vA,tu,tU,Bn,sG,sd,vG,vD,sC,pR,ph,xC,gP,jo,DF,nP,F7,wV,zD,ft,List.map_cons,List.map_nil,List.length_cons,List.length_nil,List.replicate,List.cons_append,List.nil_append,List.append_nil,List.getElem?_cons_zero,List.getElem?_cons_succ,List.set_cons_zero,List.set_cons_succ,Option.join_some,Nat.reduceAdd,Nat.reduceSub,Nat.reduceLeDiff,Nat.reduceEqDiff,if_true,if_false,ite_true,ite_false,Bool.not_true,Bool.not_false,Bool.false_eq_true,Nat.zero_add,xf,ow,zL,tY,nX,qU,se,si,cN,oJ,dE,tQ,sS,lO,iS,dw,pJ,AU,yn,Aw,Bb]
 rfl
noncomputable def ia (ps:List (Int×Int)):Bool:=(List.range (ps.length-1)).all fun k=>le (ps.getD k (0,0)) (ps.getD (k+1) (0,0))
theorem ub {α:Type} {xs:List α} {k:Nat} (h:k<xs.length) (d:α):atI xs (k:Int)=some (xs.getD k d):=by
 unfold atI Ci
 rw [if_pos 0x1,if_pos 0x1]
 simp [h]
theorem Bo {ps:List (Int×Int)} {k:Nat} (h:k<ps.length):atI (ps.map pr) (k:Int)=some (pr (ps.getD k (0,0))):=by
 rw [xk,ub h (0,0)]
 rfl
theorem z0 {lo:Int} {n:Nat} {d:D} (h:d∈df lo n):∃i:Nat,i<n/\d=.int (lo+(i:Int)):=by
 unfold df at h
 obtain ⟨i,hi,e⟩:=List.mem_map.mp h
 exact ⟨i,List.mem_range.mp hi,e.symm⟩
theorem wo (ps:List (Int×Int)):cO (ar 0) bY (e2 lg (e2 bN (af 1) (e2 gSub (af 0) (eC (.int 1)))) (e2 bN (af 1) (af 0))) (cT 1 [0] [some (.d (.list (ps.map pr)))]) (df 1 ((ps.length:Int)-1).toNat)=some (((List.range (ps.length-1)).map fun k=>le (ps.getD k (0,0)) (ps.getD (k+1) (0,0))).map PyData.bool):=by
 rw [vd (g:=fun d=>match d with|.int i=>.bool (le (ps.getD (i-1).toNat (0,0)) (ps.getD i.toNat (0,0)))|_=>.none)]
 ·have hn:((ps.length:Int)-1).toNat=ps.length-1:=by lia
  rw [hn]
  unfold df
  rw [List.map_map,List.map_map]
  congr 1
  refine List.map_congr_left fun k hk=>?_
  show PyData.bool (le (ps.getD (1+(k:Int)-1).toNat (0,0)) (ps.getD (1+(k:Int)).toNat (0,0)))=_
  have e1:(1+(k:Int)-1).toNat=k:=by lia
  have e2:(1+(k:Int)).toNat=k+1:=by lia
  rw [e1,e2]
  rfl
 ·intro d hd
  obtain ⟨i,hi,rfl⟩:=z0 hd
  unfold cT
  simp only [eG,nc,bE,aW,aZ,fQ,bP,Cn,kJ,FV,af,eC,e2,aa,aj,bf,cC,aL,ax,L3.args_nil,vJ,og,pU,oQ,mr,sA,mn,Option.map_some,aE,Bp,sD,aR,wR,wd,wX,vA,tu,tU,Bn,sG,sd,vG,vD,sC,pR,ph,xC,gP,jo,DF,nP,F7,wV,zD,ft,List.map_cons,List.map_nil,List.length_cons,List.length_nil,List.replicate,List.cons_append,List.nil_append,List.append_nil,List.getElem?_cons_zero,List.getElem?_cons_succ,List.set_cons_zero,List.set_cons_succ,Option.join_some,Nat.reduceAdd,Nat.reduceSub,Nat.reduceLeDiff,Nat.reduceEqDiff,if_true,if_false,ite_true,ite_false,Bool.not_true,Bool.not_false,Bool.false_eq_true,Nat.zero_add,xf,ow,zL,tY,nX,qU,se,si,cN,oJ,dE,tQ,sS,lO,iS,dw,pJ,AU,yn,Aw,Bb]
  have hi2:i+1<ps.length:=by lia
  have e1:(1+(i:Int)-1)=(i:Int):=by lia
  have e2:(1+(i:Int))=((i+1:Nat):Int):=by lia
  rw [e1,e2,iY (Bo 0x1),iY (Bo hi2)]
  simp only [eG,nc,bE,aW,aZ,fQ,bP,Cn,kJ,FV,af,eC,e2,aa,aj,bf,cC,aL,ax,L3.args_nil,vJ,og,pU,oQ,mr,sA,mn,Option.map_some,aE,Bp,sD,aR,wR,wd,wX,vA,tu,tU,Bn,sG,sd,vG,vD,sC,pR,ph,xC,gP,jo,DF,nP,F7,wV,zD,ft,List.map_cons,List.map_nil,List.length_cons,List.length_nil,List.replicate,List.cons_append,List.nil_append,List.append_nil,List.getElem?_cons_zero,List.getElem?_cons_succ,List.set_cons_zero,List.set_cons_succ,Option.join_some,Nat.reduceAdd,Nat.reduceSub,Nat.reduceLeDiff,Nat.reduceEqDiff,if_true,if_false,ite_true,ite_false,Bool.not_true,Bool.not_false,Bool.false_eq_true,Nat.zero_add,xf,ow,zL,tY,nX,qU,se,si,cN,oJ,dE,tQ,sS,lO,iS,dw,pJ,AU,yn,Aw,Bb]
  rw [Dh]
  have e3:((i+1:Nat):Int)-1=(i:Int):=by lia
  simp only [e3,Int.toNat_natCast]
theorem iq (ps:List (Int×Int)):dF [.d (.list (ps.map pr))]=rt (.d (.int (ps.length:Int))):=by
 show rt (DV.d (.int ((ps.map pr).length:Int)))=_
 rw [List.length_map]
theorem jI {fr:DS->M (List DV)} {δ:DS} {i j:Int} (h:fr δ=rt [.d (.int i),.d (.int j)]) (hi:-1000<=i) (hi':i<=1000) (hj:-1000<=j) (hj':j<=1000):qI fr δ=rt (df i (j-i).toNat):=by
 unfold qI
 rw [h]
 exact if_pos ⟨0x1,0x1,0x1,0x1⟩
theorem jK {fr:DS->M (List DV)} {δ:DS} {j:Int} (h:fr δ=rt [.d (.int j)]) (hj:-1000<=j) (hj':j<=1000):qW fr δ=rt (df 0 j.toNat):=by
 unfold qW
 rw [h]
 exact if_pos ⟨0x1,0x1⟩
theorem bp {k:Nat} {js:List Nat} {fi:DS->M (List D)} {sf:D->DS->Option DS} {gc:DS->M Bool} {fe:DS->M DV} {δ:DS} {xs ys:List D} (h1:fi δ=rt xs) (h2:xs.length<=1000000) (h3:cO sf gc fe (cT k js δ) xs=some ys):bb k js fi sf gc fe δ=rt (.new ys):=by
 unfold bb
 rw [h1,aE,if_pos h2,h3]
 rfl
theorem Dk (ps:List (Int×Int)) (hl:ps.length<=1000):bj [.d (.list (ps.map pr))]=rt (.d (.bool (ia ps))):=by
 unfold bj ib
 simp only [eG,nc,bE,aW,aZ,fQ,bP,Cn,kJ,FV,af,eC,e2,aa,aj,bf,cC,aL,ax,L3.args_nil,vJ,og,pU,oQ,mr,sA,mn,Option.map_some,aE,Bp,sD,aR,wR,wd,wX,vA,tu,tU,Bn,sG,sd,vG,vD,sC,pR,ph,xC,gP,jo,DF,nP,F7,wV,zD,ft,List.map_cons,List.map_nil,List.length_cons,List.length_nil,List.replicate,List.cons_append,List.nil_append,List.append_nil,List.getElem?_cons_zero,List.getElem?_cons_succ,List.set_cons_zero,List.set_cons_succ,Option.join_some,Nat.reduceAdd,Nat.reduceSub,Nat.reduceLeDiff,Nat.reduceEqDiff,if_true,if_false,ite_true,ite_false,Bool.not_true,Bool.not_false,Bool.false_eq_true,Nat.zero_add,xf,ow,zL,tY,nX,qU,se,si,cN,oJ,dE,tQ,sS,lO,iS,dw,pJ,AU,yn,Aw,Bb]
 rw [bp (jI (i:=1) (j:=(ps.length:Int)) (by simp only [eG,nc,bE,aW,aZ,fQ,bP,Cn,kJ,FV,af,eC,e2,aa,aj,bf,cC,aL,ax,L3.args_nil,vJ,og,pU,oQ,mr,sA,mn,Option.map_some,aE,Bp,sD,aR,wR,wd,wX,vA,tu,tU,Bn,sG,sd,vG,vD,sC,pR,ph,xC,gP,jo,DF,nP,F7,wV,zD,ft,List.map_cons,List.map_nil,List.length_cons,List.length_nil,List.replicate,List.cons_append,List.nil_append,List.append_nil,List.getElem?_cons_zero,List.getElem?_cons_succ,List.set_cons_zero,List.set_cons_succ,Option.join_some,Nat.reduceAdd,Nat.reduceSub,Nat.reduceLeDiff,Nat.reduceEqDiff,if_true,if_false,ite_true,ite_false,Bool.not_true,Bool.not_false,Bool.false_eq_true,Nat.zero_add,xf,ow,zL,tY,nX,qU,se,si,cN,oJ,dE,tQ,sS,lO,iS,dw,pJ,AU,yn,Aw,Bb]; rw [iq]; simp only [eG,nc,bE,aW,aZ,fQ,bP,Cn,kJ,FV,af,eC,e2,aa,aj,bf,cC,aL,ax,L3.args_nil,vJ,og,pU,oQ,mr,sA,mn,Option.map_some,aE,Bp,sD,aR,wR,wd,wX,vA,tu,tU,Bn,sG,sd,vG,vD,sC,pR,ph,xC,gP,jo,DF,nP,F7,wV,zD,ft,List.map_cons,List.map_nil,List.length_cons,List.length_nil,List.replicate,List.cons_append,List.nil_append,List.append_nil,List.getElem?_cons_zero,List.getElem?_cons_succ,List.set_cons_zero,List.set_cons_succ,Option.join_some,Nat.reduceAdd,Nat.reduceSub,Nat.reduceLeDiff,Nat.reduceEqDiff,if_true,if_false,ite_true,ite_false,Bool.not_true,Bool.not_false,Bool.false_eq_true,Nat.zero_add,xf,ow,zL,tY,nX,qU,se,si,cN,oJ,dE,tQ,sS,lO,iS,dw,pJ,AU,yn,Aw,Bb]) 0x1 0x1 0x1 0x1) (by rw [eZ]; lia) (wo ps)]
 simp only [eG,nc,bE,aW,aZ,fQ,bP,Cn,kJ,FV,af,eC,e2,aa,aj,bf,cC,aL,ax,L3.args_nil,vJ,og,pU,oQ,mr,sA,mn,Option.map_some,aE,Bp,sD,aR,wR,wd,wX,vA,tu,tU,Bn,sG,sd,vG,vD,sC,pR,ph,xC,gP,jo,DF,nP,F7,wV,zD,ft,List.map_cons,List.map_nil,List.length_cons,List.length_nil,List.replicate,List.cons_append,List.nil_append,List.append_nil,List.getElem?_cons_zero,List.getElem?_cons_succ,List.set_cons_zero,List.set_cons_succ,Option.join_some,Nat.reduceAdd,Nat.reduceSub,Nat.reduceLeDiff,Nat.reduceEqDiff,if_true,if_false,ite_true,ite_false,Bool.not_true,Bool.not_false,Bool.false_eq_true,Nat.zero_add,xf,ow,zL,tY,nX,qU,se,si,cN,oJ,dE,tQ,sS,lO,iS,dw,pJ,AU,yn,Aw,Bb]
 rw [l6]
 simp only [eG,nc,bE,aW,aZ,fQ,bP,Cn,kJ,FV,af,eC,e2,aa,aj,bf,cC,aL,ax,L3.args_nil,vJ,og,pU,oQ,mr,sA,mn,Option.map_some,aE,Bp,sD,aR,wR,wd,wX,vA,tu,tU,Bn,sG,sd,vG,vD,sC,pR,ph,xC,gP,jo,DF,nP,F7,wV,zD,ft,List.map_cons,List.map_nil,List.length_cons,List.length_nil,List.replicate,List.cons_append,List.nil_append,List.append_nil,List.getElem?_cons_zero,List.getElem?_cons_succ,List.set_cons_zero,List.set_cons_succ,Option.join_some,Nat.reduceAdd,Nat.reduceSub,Nat.reduceLeDiff,Nat.reduceEqDiff,if_true,if_false,ite_true,ite_false,Bool.not_true,Bool.not_false,Bool.false_eq_true,Nat.zero_add,xf,ow,zL,tY,nX,qU,se,si,cN,oJ,dE,tQ,sS,lO,iS,dw,pJ,AU,yn,Aw,Bb]
 unfold ia
 rw [List.all_map]
 rfl
theorem dq {α:Type} {f:α->D} {fe:DS->M DV} {δ:DS} {g:α->D}:∀{as:List α},(∀a∈as,fe (δ.set 0 (some (.d (f a))))=rt (.d (g a)))->cO (ar 0) bY fe δ (as.map f)=some (as.map g)
 |[],_=>rfl
 |a::r,h=>by
  have h1:=h a JZ
  have ih:=dq (as:=r) fun e he=>h e (JY _ he)
  rw [List.map_cons,List.map_cons]
  unfold cO
  simp only [ar,bY,rt]
  rw [h1,ih]
  rfl
noncomputable def iK (ps:List (Int×Int)) (p:Int×Int):Int:=(((ps.map pr).countP fun z=>PyData.eqv z (pr p):Nat):Int)
theorem oF (ps:List (Int×Int)) (p:Int×Int):sr (.d (.list (ps.map pr))) (.d (pr p))=rt (.d (.int (iK ps p))):=by
 unfold sr iK
 exact if_pos (show (pr p).depth<=60 from (by decide:1<=60))
theorem BD (ps:List (Int×Int)) (p:Int×Int):sr (.own (ps.map pr)) (.d (pr p))=rt (.d (.int (iK ps p))):=by
 unfold sr iK
 exact if_pos (show (pr p).depth<=60 from (by decide:1<=60))
noncomputable def tok (m c:Int) (ps:List (Int×Int)) (p:Int×Int):Bool:=aX m c p&&decide (iK ps p<=2)
theorem yS (C:Addr) (m c j:Int) (ps:List (Int×Int)) :
  cO (ar 0) bY (nP (aL (ax 2 (bR C)) (aa (af 1) (aa (af 0) aj))) (e2 lg (iO (af 2) (af 0)) (eC (.int 2)))) (cT 1 [0,1] [some (hs C m c),some (.d (.list (ps.map pr))),some (.d (.int j))]) (ps.map pr)=some ((ps.map (tok m c ps)).map PyData.bool):=by
 rw [List.map_map]
 refine dq fun p hp=>?_
 unfold cT
 simp only [eG,nc,bE,aW,aZ,fQ,bP,Cn,kJ,FV,af,eC,e2,aa,aj,bf,cC,aL,ax,L3.args_nil,vJ,og,pU,oQ,mr,sA,mn,Option.map_some,aE,Bp,sD,aR,wR,wd,wX,vA,tu,tU,Bn,sG,sd,vG,vD,sC,pR,ph,xC,gP,jo,DF,nP,F7,wV,zD,ft,List.map_cons,List.map_nil,List.length_cons,List.length_nil,List.replicate,List.cons_append,List.nil_append,List.append_nil,List.getElem?_cons_zero,List.getElem?_cons_succ,List.set_cons_zero,List.set_cons_succ,Option.join_some,Nat.reduceAdd,Nat.reduceSub,Nat.reduceLeDiff,Nat.reduceEqDiff,if_true,if_false,ite_true,ite_false,Bool.not_true,Bool.not_false,Bool.false_eq_true,Nat.zero_add,xf,ow,zL,tY,nX,qU,se,si,cN,oJ,dE,tQ,sS,lO,iS,dw,pJ,AU,yn,Aw,Bb]
 unfold iO
 simp only [eG,nc,bE,aW,aZ,fQ,bP,Cn,kJ,FV,af,eC,e2,aa,aj,bf,cC,aL,ax,L3.args_nil,vJ,og,pU,oQ,mr,sA,mn,Option.map_some,aE,Bp,sD,aR,wR,wd,wX,vA,tu,tU,Bn,sG,sd,vG,vD,sC,pR,ph,xC,gP,jo,DF,nP,F7,wV,zD,ft,List.map_cons,List.map_nil,List.length_cons,List.length_nil,List.replicate,List.cons_append,List.nil_append,List.append_nil,List.getElem?_cons_zero,List.getElem?_cons_succ,List.set_cons_zero,List.set_cons_succ,Option.join_some,Nat.reduceAdd,Nat.reduceSub,Nat.reduceLeDiff,Nat.reduceEqDiff,if_true,if_false,ite_true,ite_false,Bool.not_true,Bool.not_false,Bool.false_eq_true,Nat.zero_add,xf,ow,zL,tY,nX,qU,se,si,cN,oJ,dE,tQ,sS,lO,iS,dw,pJ,AU,yn,Aw,Bb]
 simp only [CU]
 simp only [eG,nc,bE,aW,aZ,fQ,bP,Cn,kJ,FV,af,eC,e2,aa,aj,bf,cC,aL,ax,L3.args_nil,vJ,og,pU,oQ,mr,sA,mn,Option.map_some,aE,Bp,sD,aR,wR,wd,wX,vA,tu,tU,Bn,sG,sd,vG,vD,sC,pR,ph,xC,gP,jo,DF,nP,F7,wV,zD,ft,List.map_cons,List.map_nil,List.length_cons,List.length_nil,List.replicate,List.cons_append,List.nil_append,List.append_nil,List.getElem?_cons_zero,List.getElem?_cons_succ,List.set_cons_zero,List.set_cons_succ,Option.join_some,Nat.reduceAdd,Nat.reduceSub,Nat.reduceLeDiff,Nat.reduceEqDiff,if_true,if_false,ite_true,ite_false,Bool.not_true,Bool.not_false,Bool.false_eq_true,Nat.zero_add,xf,ow,zL,tY,nX,qU,se,si,cN,oJ,dE,tQ,sS,lO,iS,dw,pJ,AU,yn,Aw,Bb]
 rw [Bz,oF]
 simp only [eG,nc,bE,aW,aZ,fQ,bP,Cn,kJ,FV,af,eC,e2,aa,aj,bf,cC,aL,ax,L3.args_nil,vJ,og,pU,oQ,mr,sA,mn,Option.map_some,aE,Bp,sD,aR,wR,wd,wX,vA,tu,tU,Bn,sG,sd,vG,vD,sC,pR,ph,xC,gP,jo,DF,nP,F7,wV,zD,ft,List.map_cons,List.map_nil,List.length_cons,List.length_nil,List.replicate,List.cons_append,List.nil_append,List.append_nil,List.getElem?_cons_zero,List.getElem?_cons_succ,List.set_cons_zero,List.set_cons_succ,Option.join_some,Nat.reduceAdd,Nat.reduceSub,Nat.reduceLeDiff,Nat.reduceEqDiff,if_true,if_false,ite_true,ite_false,Bool.not_true,Bool.not_false,Bool.false_eq_true,Nat.zero_add,xf,ow,zL,tY,nX,qU,se,si,cN,oJ,dE,tQ,sS,lO,iS,dw,pJ,AU,yn,Aw,Bb]
 rfl
noncomputable def jok (j:Int):Bool:=decide (0<=j)&&decide (j<=2)
noncomputable def my (m c:Int) (ps:List (Int×Int)) (j:Int):Bool:=decide (ps.length<=12)&&jok j&&(ps.map (tok m c ps)).all id&&ia ps
theorem gd {f:DS->M DV} {δ:DS} {xs:List D} (h:f δ=rt (.d (.list xs))):kG f δ=rt xs:=by
 unfold kG
 rw [h]
 rfl
theorem Ao (y z:DV) (x:D) (fo:List DV->M DV) (b:Bool) (h:fo [.d x]=rt (.d (.bool b))):bd (bd (rt (Out.nx [some y,some (.d x),some z])) (Iu (aZ (aL (ax 1 fo) (aa (af 1) aj))))) zk=rt (.d (.bool b)):=by
 simp only [eG,nc,bE,aW,aZ,fQ,bP,Cn,kJ,FV,af,eC,e2,aa,aj,bf,cC,aL,ax,L3.args_nil,vJ,og,pU,oQ,mr,sA,mn,Option.map_some,aE,Bp,sD,aR,wR,wd,wX,vA,tu,tU,Bn,sG,sd,vG,vD,sC,pR,ph,xC,gP,jo,DF,nP,F7,wV,zD,ft,List.map_cons,List.map_nil,List.length_cons,List.length_nil,List.replicate,List.cons_append,List.nil_append,List.append_nil,List.getElem?_cons_zero,List.getElem?_cons_succ,List.set_cons_zero,List.set_cons_succ,Option.join_some,Nat.reduceAdd,Nat.reduceSub,Nat.reduceLeDiff,Nat.reduceEqDiff,if_true,if_false,ite_true,ite_false,Bool.not_true,Bool.not_false,Bool.false_eq_true,Nat.zero_add,xf,ow,zL,tY,nX,qU,se,si,cN,oJ,dE,tQ,sS,lO,iS,dw,pJ,AU,yn,Aw,Bb]
 rw [h]
 simp only [eG,nc,bE,aW,aZ,fQ,bP,Cn,kJ,FV,af,eC,e2,aa,aj,bf,cC,aL,ax,L3.args_nil,vJ,og,pU,oQ,mr,sA,mn,Option.map_some,aE,Bp,sD,aR,wR,wd,wX,vA,tu,tU,Bn,sG,sd,vG,vD,sC,pR,ph,xC,gP,jo,DF,nP,F7,wV,zD,ft,List.map_cons,List.map_nil,List.length_cons,List.length_nil,List.replicate,List.cons_append,List.nil_append,List.append_nil,List.getElem?_cons_zero,List.getElem?_cons_succ,List.set_cons_zero,List.set_cons_succ,Option.join_some,Nat.reduceAdd,Nat.reduceSub,Nat.reduceLeDiff,Nat.reduceEqDiff,if_true,if_false,ite_true,ite_false,Bool.not_true,Bool.not_false,Bool.false_eq_true,Nat.zero_add,xf,ow,zL,tY,nX,qU,se,si,cN,oJ,dE,tQ,sS,lO,iS,dw,pJ,AU,yn,Aw,Bb]
theorem GV (C:Addr) (m c j:Int) (ps:List (Int×Int)) (hl:ps.length<=1000):ik C [hs C m c,.d (.list (ps.map pr)),.d (.int j)]=rt (.d (.bool (my m c ps j))):=by
 have ho:=Dk ps hl
 unfold ik rP
 generalize bj=fo at ho ⊢
 simp only [eG,nc,bE,aW,aZ,fQ,bP,Cn,kJ,FV,af,eC,e2,aa,aj,bf,cC,aL,ax,L3.args_nil,vJ,og,pU,oQ,mr,sA,mn,Option.map_some,aE,Bp,sD,aR,wR,wd,wX,vA,tu,tU,Bn,sG,sd,vG,vD,sC,pR,ph,xC,gP,jo,DF,nP,F7,wV,zD,ft,List.map_cons,List.map_nil,List.length_cons,List.length_nil,List.replicate,List.cons_append,List.nil_append,List.append_nil,List.getElem?_cons_zero,List.getElem?_cons_succ,List.set_cons_zero,List.set_cons_succ,Option.join_some,Nat.reduceAdd,Nat.reduceSub,Nat.reduceLeDiff,Nat.reduceEqDiff,if_true,if_false,ite_true,ite_false,Bool.not_true,Bool.not_false,Bool.false_eq_true,Nat.zero_add,xf,ow,zL,tY,nX,qU,se,si,cN,oJ,dE,tQ,sS,lO,iS,dw,pJ,AU,yn,Aw,Bb]
 rw [iq]
 simp only [eG,nc,bE,aW,aZ,fQ,bP,Cn,kJ,FV,af,eC,e2,aa,aj,bf,cC,aL,ax,L3.args_nil,vJ,og,pU,oQ,mr,sA,mn,Option.map_some,aE,Bp,sD,aR,wR,wd,wX,vA,tu,tU,Bn,sG,sd,vG,vD,sC,pR,ph,xC,gP,jo,DF,nP,F7,wV,zD,ft,List.map_cons,List.map_nil,List.length_cons,List.length_nil,List.replicate,List.cons_append,List.nil_append,List.append_nil,List.getElem?_cons_zero,List.getElem?_cons_succ,List.set_cons_zero,List.set_cons_succ,Option.join_some,Nat.reduceAdd,Nat.reduceSub,Nat.reduceLeDiff,Nat.reduceEqDiff,if_true,if_false,ite_true,ite_false,Bool.not_true,Bool.not_false,Bool.false_eq_true,Nat.zero_add,xf,ow,zL,tY,nX,qU,se,si,cN,oJ,dE,tQ,sS,lO,iS,dw,pJ,AU,yn,Aw,Bb]
 have ej:(decide (0<=j)&&decide (j<=2))=jok j:=rfl
 have el:(decide ((12:Int)<(ps.length:Int)))=!decide (ps.length<=12):=by
  by_cases h:ps.length<=12
  ·rw [decide_eq_true h,decide_eq_false 0x1]; rfl
  ·rw [decide_eq_false h,decide_eq_true 0x1]; rfl
 rw [ej,el]
 unfold my
 cases h12:decide (ps.length<=12) with
 |false=>
  simp only [Bool.not_false,Bool.true_or,if_true,Bool.false_and]
  simp only [eG,nc,bE,aW,aZ,fQ,bP,Cn,kJ,FV,af,eC,e2,aa,aj,bf,cC,aL,ax,L3.args_nil,vJ,og,pU,oQ,mr,sA,mn,Option.map_some,aE,Bp,sD,aR,wR,wd,wX,vA,tu,tU,Bn,sG,sd,vG,vD,sC,pR,ph,xC,gP,jo,DF,nP,F7,wV,zD,ft,List.map_cons,List.map_nil,List.length_cons,List.length_nil,List.replicate,List.cons_append,List.nil_append,List.append_nil,List.getElem?_cons_zero,List.getElem?_cons_succ,List.set_cons_zero,List.set_cons_succ,Option.join_some,Nat.reduceAdd,Nat.reduceSub,Nat.reduceLeDiff,Nat.reduceEqDiff,if_true,if_false,ite_true,ite_false,Bool.not_true,Bool.not_false,Bool.false_eq_true,Nat.zero_add,xf,ow,zL,tY,nX,qU,se,si,cN,oJ,dE,tQ,sS,lO,iS,dw,pJ,AU,yn,Aw,Bb]
 |true=>
  cases hj:jok j with
  |false=>
   simp only [Bool.not_true,Bool.not_false,Bool.false_or,if_true,Bool.and_false,Bool.false_and]
   simp only [eG,nc,bE,aW,aZ,fQ,bP,Cn,kJ,FV,af,eC,e2,aa,aj,bf,cC,aL,ax,L3.args_nil,vJ,og,pU,oQ,mr,sA,mn,Option.map_some,aE,Bp,sD,aR,wR,wd,wX,vA,tu,tU,Bn,sG,sd,vG,vD,sC,pR,ph,xC,gP,jo,DF,nP,F7,wV,zD,ft,List.map_cons,List.map_nil,List.length_cons,List.length_nil,List.replicate,List.cons_append,List.nil_append,List.append_nil,List.getElem?_cons_zero,List.getElem?_cons_succ,List.set_cons_zero,List.set_cons_succ,Option.join_some,Nat.reduceAdd,Nat.reduceSub,Nat.reduceLeDiff,Nat.reduceEqDiff,if_true,if_false,ite_true,ite_false,Bool.not_true,Bool.not_false,Bool.false_eq_true,Nat.zero_add,xf,ow,zL,tY,nX,qU,se,si,cN,oJ,dE,tQ,sS,lO,iS,dw,pJ,AU,yn,Aw,Bb]
  |true=>
   simp only [Bool.not_true,Bool.false_or,Bool.false_eq_true,if_false,Bool.true_and]
   simp only [eG,nc,bE,aW,aZ,fQ,bP,Cn,kJ,FV,af,eC,e2,aa,aj,bf,cC,aL,ax,L3.args_nil,vJ,og,pU,oQ,mr,sA,mn,Option.map_some,aE,Bp,sD,aR,wR,wd,wX,vA,tu,tU,Bn,sG,sd,vG,vD,sC,pR,ph,xC,gP,jo,DF,nP,F7,wV,zD,ft,List.map_cons,List.map_nil,List.length_cons,List.length_nil,List.replicate,List.cons_append,List.nil_append,List.append_nil,List.getElem?_cons_zero,List.getElem?_cons_succ,List.set_cons_zero,List.set_cons_succ,Option.join_some,Nat.reduceAdd,Nat.reduceSub,Nat.reduceLeDiff,Nat.reduceEqDiff,if_true,if_false,ite_true,ite_false,Bool.not_true,Bool.not_false,Bool.false_eq_true,Nat.zero_add,xf,ow,zL,tY,nX,qU,se,si,cN,oJ,dE,tQ,sS,lO,iS,dw,pJ,AU,yn,Aw,Bb]
   rw [bp (gd rfl) (by rw [List.length_map]; lia) (yS C m c j ps)]
   simp only [eG,nc,bE,aW,aZ,fQ,bP,Cn,kJ,FV,af,eC,e2,aa,aj,bf,cC,aL,ax,L3.args_nil,vJ,og,pU,oQ,mr,sA,mn,Option.map_some,aE,Bp,sD,aR,wR,wd,wX,vA,tu,tU,Bn,sG,sd,vG,vD,sC,pR,ph,xC,gP,jo,DF,nP,F7,wV,zD,ft,List.map_cons,List.map_nil,List.length_cons,List.length_nil,List.replicate,List.cons_append,List.nil_append,List.append_nil,List.getElem?_cons_zero,List.getElem?_cons_succ,List.set_cons_zero,List.set_cons_succ,Option.join_some,Nat.reduceAdd,Nat.reduceSub,Nat.reduceLeDiff,Nat.reduceEqDiff,if_true,if_false,ite_true,ite_false,Bool.not_true,Bool.not_false,Bool.false_eq_true,Nat.zero_add,xf,ow,zL,tY,nX,qU,se,si,cN,oJ,dE,tQ,sS,lO,iS,dw,pJ,AU,yn,Aw,Bb]
   rw [l6]
   simp only [eG,nc,bE,aW,aZ,fQ,bP,Cn,kJ,FV,af,eC,e2,aa,aj,bf,cC,aL,ax,L3.args_nil,vJ,og,pU,oQ,mr,sA,mn,Option.map_some,aE,Bp,sD,aR,wR,wd,wX,vA,tu,tU,Bn,sG,sd,vG,vD,sC,pR,ph,xC,gP,jo,DF,nP,F7,wV,zD,ft,List.map_cons,List.map_nil,List.length_cons,List.length_nil,List.replicate,List.cons_append,List.nil_append,List.append_nil,List.getElem?_cons_zero,List.getElem?_cons_succ,List.set_cons_zero,List.set_cons_succ,Option.join_some,Nat.reduceAdd,Nat.reduceSub,Nat.reduceLeDiff,Nat.reduceEqDiff,if_true,if_false,ite_true,ite_false,Bool.not_true,Bool.not_false,Bool.false_eq_true,Nat.zero_add,xf,ow,zL,tY,nX,qU,se,si,cN,oJ,dE,tQ,sS,lO,iS,dw,pJ,AU,yn,Aw,Bb]
   cases ha:(ps.map (tok m c ps)).all id with
   |false=>
    simp only [Bool.not_false,if_true,Bool.false_and]
    simp only [eG,nc,bE,aW,aZ,fQ,bP,Cn,kJ,FV,af,eC,e2,aa,aj,bf,cC,aL,ax,L3.args_nil,vJ,og,pU,oQ,mr,sA,mn,Option.map_some,aE,Bp,sD,aR,wR,wd,wX,vA,tu,tU,Bn,sG,sd,vG,vD,sC,pR,ph,xC,gP,jo,DF,nP,F7,wV,zD,ft,List.map_cons,List.map_nil,List.length_cons,List.length_nil,List.replicate,List.cons_append,List.nil_append,List.append_nil,List.getElem?_cons_zero,List.getElem?_cons_succ,List.set_cons_zero,List.set_cons_succ,Option.join_some,Nat.reduceAdd,Nat.reduceSub,Nat.reduceLeDiff,Nat.reduceEqDiff,if_true,if_false,ite_true,ite_false,Bool.not_true,Bool.not_false,Bool.false_eq_true,Nat.zero_add,xf,ow,zL,tY,nX,qU,se,si,cN,oJ,dE,tQ,sS,lO,iS,dw,pJ,AU,yn,Aw,Bb]
   |true=>
    simp only [Bool.not_true,Bool.false_eq_true,if_false,Bool.true_and]
    exact Ao _ _ _ _ _ ho
theorem Bw:∀{l:List D},(∀x∈l,∃p,pr p=x)->∃qs:List (Int×Int),l=qs.map pr
 |[],_=>⟨[],rfl⟩
 |x::r,h=>by
  obtain ⟨p,hp⟩:=h x JZ
  obtain ⟨qs,hq⟩:=Bw (l:=r) fun y hy=>h y (JY _ hy)
  exact ⟨p::qs,by rw [List.map_cons,hp,hq]⟩
theorem xY (ps:List (Int×Int)):∃qs:List (Int×Int),zF (ps.map pr)=qs.map pr/\qs.length=ps.length:=by
 obtain ⟨qs,hq⟩:=Bw (l:=zF (ps.map pr)) fun x hx=>by
  obtain ⟨p,_,e⟩:=List.mem_map.mp ((gQ _).mem_iff.mp hx)
  exact ⟨p,e⟩
 refine ⟨qs,hq,?_⟩
 have:=(gQ (ps.map pr)).length_eq
 rw [hq,List.length_map,List.length_map] at this
 exact this
theorem Gc (ps:List (Int×Int)):(ps.map pr).all (fun y=>(kT y).isSome&&decide ((kO y).length≠0))=true:=by
 rw [List.all_map,List.all_eq_true]
 intro p _
 rfl
theorem yC {x:DV} {ps:List (Int×Int)} (hx:mj x=some (ps.map pr)) (hl:ps.length<64):kY [x]=rt (.new (zF (ps.map pr))):=by
 unfold kY
 simp only [hx,aR,aE]
 exact if_pos ⟨by rw [List.length_map]; exact hl,Gc ps⟩
theorem ya {ps:List (Int×Int)} (h:L3.Ord (ps.map pr)):ia ps=true:=by
 unfold L3.Ord at h
 rw [List.pairwise_map,List.pairwise_iff_getElem] at h
 unfold ia
 rw [List.all_eq_true]
 intro k hk
 have hk:=List.mem_range.mp hk
 have:=h k (k+1) 0x1 0x1 0x1
 unfold le
 have e1:ps.getD k (0,0)=ps[k]'0x1:=by simp [show k<ps.length by lia]
 have e2:ps.getD (k+1) (0,0)=ps[k+1]'0x1:=by simp [show k+1<ps.length by lia]
 rw [e1,e2]
 have this':ll [(ps[k+1]'0x1).1,(ps[k+1]'0x1).2] [(ps[k]'0x1).1,(ps[k]'0x1).2]=false:=this
 rw [this']
 rfl
theorem CV (neg:Bool) (ps qs:List (Int×Int)) (x:DV) (hx:oM x=some (.list (qs.map pr))):g7 neg (.d (.list (ps.map pr))) x=rt (.d (.bool (if neg=true then !decide (ps=qs) else decide (ps=qs)))):=by
 unfold g7
 rw [hx]
 simp only [qU]
 have hd:(PyData.list (ps.map pr)).depth<=60:=by
  have:=rD ps
  unfold PyData.depth
  lia
 rw [if_pos hd]
 have he:PyData.eqv (.list (ps.map pr)) (.list (qs.map pr))=decide (ps=qs):=xN ps qs
 rw [he]
section
variable {F G:DS->M Out} {f fa fb fc:DS->M DV} {fr:DS->M (List DV)} {gc:DS->M Bool} {g:DV->DV->M DV} {δ δ':DS} {x y z:DV} {k:Bool}
theorem cF (h:F δ=rt (.nx δ')):bE F G δ=G δ':=by unfold bE; rw [h]; rfl
theorem qP (h:F δ=rt (.rt x)):bE F G δ=rt (.rt x):=by unfold bE; rw [h]; rfl
theorem iB (h:gc δ=rt k):fQ gc F G δ=if k=true then F δ else G δ:=by unfold fQ; rw [h]; rfl
theorem lu {i:Nat} (h:f δ=rt x) (ha:um x=some y):aW i f δ=rt (.nx (δ.set i (some y))):=by unfold aW; rw [h,aE,ha]; rfl
theorem bC (h:f δ=rt x):aZ f δ=rt (.rt x):=by unfold aZ; rw [h]; rfl
theorem au (h1:fa δ=rt x) (h2:fb δ=rt y):e2 g fa fb δ=g x y:=by unfold e2; rw [h1,aE,h2]; rfl
theorem bh (h1:fa δ=rt x):aa fa aj δ=rt [x]:=by unfold aa; rw [h1]; rfl
theorem bH (h1:fa δ=rt x) (h2:fb δ=rt y):aa fa (aa fb aj) δ=rt [x,y]:=by
 have:=bh h2
 unfold aa at this ⊢
 rw [h1,aE,this]; rfl
theorem dG (h1:fa δ=rt x) (h2:fb δ=rt y) (h3:fc δ=rt z):aa fa (aa fb (aa fc aj)) δ=rt [x,y,z]:=by
 have:=bH h2 h3
 unfold aa at this ⊢
 rw [h1,aE,this]; rfl
theorem cj {G:List DV->M DV} {xs:List DV} (h:fr δ=rt xs):aL G fr δ=G xs:=by unfold aL; rw [h]; rfl
theorem bB {n:Nat} {fm:List DV->M DV} {xs ys:List DV} (h:fr δ=rt xs) (ha:args xs=some ys) (hn:ys.length=n) (hm:fm ys=rt x):aL (ax n fm) fr δ=rt x:=by
 rw [cj h]
 unfold ax
 rw [ha,aR,aE,if_pos hn,hm]; rfl
theorem jH {a b:D} (h1:fa δ=rt (.d a)) (h2:fb δ=rt (.d b)):bf (aa fa (aa fb aj)) δ=rt (.d (.tuple [a,b])):=by
 unfold bf
 rw [bH h1 h2]
 rfl
theorem a8 {b:Bool} (h:f δ=rt (.d (.bool b))):(fun δ=>bd (f δ) bI) δ=rt b:=by
 show bd (f δ) bI=_
 rw [h]; rfl
theorem F2 {ga gb:DS->M Bool} {a b:Bool} (h1:ga δ=rt a) (h2:gb δ=rt b):jo ga gb δ=rt (a&&b):=by
 unfold jo
 rw [h1,aE,h2,yn]
theorem su {ga:DS->M Bool} {a:Bool} (h1:ga δ=rt a):gP ga δ=rt (!a):=by
 unfold gP
 rw [h1,aE]
theorem tq {cell k many:Int} (h1:fa δ=rt (.d (.int cell))) (h2:fb δ=rt (.d (.int k))) (h3:fc δ=rt (.d (.int many))) (hm:0<many):∃r,aL (ax 3 aw) (aa fa (aa fb (aa fc aj))) δ=rt (.d (.int r))/\0<=r/\r<many:=by
 obtain ⟨r,h,h0,hr⟩:=vf cell k many hm
 exact ⟨r,bB (dG h1 h2 h3) rfl rfl h,h0,hr⟩
theorem va {K:Kd} {ns:List Int} {k:Int} (h1:fa δ=rt (.scr K ns)) (h2:fb δ=rt (.d (.int k))) (hk:0<=k):aL (ax 2 (aF K)) (aa fa (aa fb aj)) δ=rt (.d (.int (cp ns k))):=
 bB (bH h1 h2) rfl rfl (AY K ns k hk)
theorem vS {i:Nat} {xs:List D} {d:D} (hi:δ[i]?=some (some (.own xs))) (h:f δ=rt x) (hd:vx x=some d) (hl:xs.length<1000000):kr i f δ=rt (.nx (δ.set i (some (.own (xs++[d]))))):=by
 unfold kr
 rw [hi]
 simp only
 rw [h,aE,hd,aR,aE,if_pos hl]
theorem Bd {xs ys:List D} (h0:BJ x y=none) (hx:mj x=some xs) (hy:mj y=some ys) (hl:xs.length+ys.length<=1000000):aY x y=rt (.new (xs++ys)):=by
 unfold aY AZ
 rw [h0]
 unfold zP
 rw [hx,hy]
 exact if_pos hl
end
theorem lM (ps:List (Int×Int)):dF [.own (ps.map pr)]=rt (.d (.int (ps.length:Int))):=by
 show rt (DV.d (.int ((ps.map pr).length:Int)))=_
 rw [List.length_map]
theorem i8 (a b:Int):g7 false (.d (.int a)) (.d (.int b))=rt (.d (.bool (a==b))):=rfl
noncomputable def tB:DS->M Out:=fQ (jo (fun δ=>bd (e2 fJ (iO (af 2) (af 3)) (eC (.int 2)) δ) bI) (fun δ=>bd (e2 fJ (aL dF (aa (af 2) aj)) (af 1) δ) bI)) (kr 2 (af 3)) bP
theorem wI {fo fe:DS->M DV} {δ:DS} {x y:DV} {xs:List D} (h1:fo δ=rt x) (hx:mj x=some xs) (h2:fe δ=rt y):iO fo fe δ=sr x y:=by
 unfold iO
 rw [h1,aE,hx,aR,aE,h2,aE]
noncomputable def hB (K:Kd):DS->M Out:=(bE (aW 7 (aL (ax 2 (aF K)) (aa (af 0) (aa (e2 aY (af 1) (af 6)) aj)))) (bE (Cn (kn 2 (cm (ar 8) (cm (ar 9) kM))) (bf (aa (e2 aY (eC (.int 1)) (aL (ax 3 (aw)) (aa (af 7) (aa (eC (.int 1)) (aa (af 2) aj))))) (aa (aL (ax 3 (aw)) (aa (af 7) (aa (eC (.int 2)) (aa (af 3) aj)))) aj)))) (bE (aW 10 (e2 aY (eC (.int 2)) (aL (ax 3 (aw)) (aa (af 7) (aa (eC (.int 3)) (aa (eC (.int 4)) aj)))))) (bE (fQ (fun δ=>bd (e2 (g7 false) (aL (ax 3 (aw)) (aa (af 7) (aa (eC (.int 4)) (aa (eC (.int 2)) aj)))) (eC (.int 0)) δ) bI) (aW 5 (e2 aY (af 5) (bb 1 [9] (qI (aa (af 8) (aa (e2 aY (aL sL (aa (af 2) (aa (e2 gSub (e2 aY (af 8) (af 10)) (eC (.int 1))) aj))) (eC (.int 1))) aj))) (ar 0) bY (bf (aa (af 0) (aa (af 1) aj)))))) (aW 5 (e2 aY (af 5) (bb 1 [8,7] (qW (aa (af 3) aj)) (ar 0) (fun δ=>bd (e2 Cd (aL (ax 3 (aw)) (aa (af 2) (aa (e2 aY (eC (.int 10)) (af 0)) (aa (eC (.int 4)) aj)))) (eC (.int 0)) δ) bI) (bf (aa (af 1) (aa (af 0) aj))))))) (fQ (fun δ=>bd (e2 (g7 false) (aL (ax 3 (aw)) (aa (af 7) (aa (eC (.int 5)) (aa (eC (.int 3)) aj)))) (eC (.int 0)) δ) bI) (kr 5 (bf (aa (e2 aY (eC (.int 1)) (aL (ax 3 (aw)) (aa (af 7) (aa (eC (.int 6)) (aa (af 2) aj))))) (aa (aL (ax 3 (aw)) (aa (af 7) (aa (eC (.int 7)) (aa (af 3) aj)))) aj)))) bP)))))
section
variable (K:Kd) (ns:List Int) (m c st lim:Int)
noncomputable def hδ (ts:List (Int×Int)) (x6 x7 x8 x9 x10:Option DV):DS:=[some (.scr K ns),some (.d (.int st)),some (.d (.int m)),some (.d (.int c)),some (.d (.int lim)),some (.own (ts.map pr)),x6,x7,x8,x9,x10]
theorem fG {α:Type} {f:α->D} {gc:DS->M Bool} {fe:DS->M DV} {δ:DS} {b:α->Bool} {g:α->D}:∀{as:List α},(∀a∈as,gc (δ.set 0 (some (.d (f a))))=rt (b a)/\fe (δ.set 0 (some (.d (f a))))=rt (.d (g a)))->cO (ar 0) gc fe δ (as.map f)=some ((as.filter b).map g)
 |[],_=>rfl
 |a::r,h=>by
  obtain ⟨h1,h2⟩:=h a JZ
  have ih:=fG (as:=r) fun e he=>h e (JY _ he)
  rw [List.map_cons]
  unfold cO
  simp only [ar]
  rw [h1]
  cases hb:b a with
  |false=>
   rw [List.filter_cons_of_neg (by simp [hb])]
   exact ih
  |true=>
   rw [List.filter_cons_of_pos hb]
   simp only [rt]
   rw [h2,ih]
   rfl
theorem EU {sf:D->DS->Option DS} {f:DS->M DV} {δ δ':DS} {x:DV} {d:D} (h:f δ=rt x) (hd:vx x=some d) (hs:sf d δ=some δ'):Cn sf f δ=rt (.nx δ'):=by
 unfold Cn
 rw [h,aE,hd,aR,aE,hs]
 rfl
variable {m c}
end
section
variable (m c:Int) (ps:List (Int×Int)) (cell:Int)
end
end LW
namespace L3
open PySem PySem.Spec L2
open PyProof.Rows hiding St
noncomputable def mH (l:List Nat):List Int:=l.map (fun n:Nat=>(n:Int))++[-1]
mutual
noncomputable def nF:PyData->List Int
 |.int i=>[i]
 |.str x=>mH x.cps.toList
 |.tuple xs=>ij xs
 |_=>[]
noncomputable def ij:List PyData->List Int
 |[]=>[0]
 |x::r=>1::(nF x++ij r)
end
mutual
noncomputable def jV:PyData->Bool
 |.int _=>true
 |.str _=>true
 |.tuple xs=>zd xs
 |_=>false
noncomputable def zd:List PyData->Bool
 |[]=>true
 |x::r=>jV x&&zd r
end
theorem cz (x y:Int) (a b:List Int):ll (x::a) (y::b)=if x=y then ll a b else decide (x<y):=HT.lexLt_cons ..
theorem xP:∀(a b:List Nat) (r1 r2:List Int),(a=b/\decide (a<b)=false)\/(a≠b/\ll (mH a++r1) (mH b++r2)=decide (a<b)/\ll (mH b++r2) (mH a++r1)=!decide (a<b))
 |[],[],_,_=>.inl ⟨rfl,0x4⟩
 |[],y::b,r1,r2=>.inr ⟨0x4,(by
  show ll (-1::r1) ((y:Int)::(mH b++r2))=_/\ll ((y:Int)::(mH b++r2)) (-1::r1)=_
  rw [cz,cz,if_neg 0x1,if_neg 0x1]
  constructor <;> simp <;> lia)⟩
 |x::a,[],r1,r2=>.inr ⟨0x4,(by
  show ll ((x:Int)::(mH a++r1)) (-1::r2)=_/\ll (-1::r2) ((x:Int)::(mH a++r1))=_
  rw [cz,cz,if_neg 0x1,if_neg 0x1]
  constructor <;> simp <;> lia)⟩
 |x::a,y::b,r1,r2=>by
  have e1:mH (x::a)++r1=(x:Int)::(mH a++r1):=rfl
  have e2:mH (y::b)++r2=(y:Int)::(mH b++r2):=rfl
  rw [e1,e2,cz,cz]
  by_cases h:x=y
  ·subst h
   rw [if_pos rfl,if_pos rfl]
   have ed:decide (x::a<x::b)=decide (a<b):=by
    simp [List.cons_lt_cons_iff]
   rw [ed]
   rcases xP a b r1 r2 with ⟨q,q2⟩|q
   ·exact .inl ⟨by rw [q],q2⟩
   ·exact .inr ⟨fun e=>q.1 (by cases e; rfl),q.2⟩
  ·rw [if_neg 0x1,if_neg 0x1]
   refine .inr ⟨fun e=>h (by cases e; rfl),?_⟩
   have ed:decide (x::a<y::b)=decide (x<y):=by
    simp [List.cons_lt_cons_iff,h]
   rw [ed]
   constructor
   ·simp
   ·by_cases q:x<y
    ·simp [q]; lia
    ·simp [q]; lia
mutual
theorem zQ:∀(x y:PyData),jV x=true->jV y=true->PyData.eqv x y=true->x=y
 |.int i,.int j,_,_,h=>by
  unfold PyData.eqv at h
  rw [eq_of_beq h]
 |.str x,.str y,_,_,h=>by
  unfold PyData.eqv at h
  rw [eq_of_beq h]
 |.tuple xs,.tuple ys,h1,h2,h=>by
  unfold PyData.eqv at h
  unfold jV at h1 h2
  rw [qT xs ys h1 h2 h]
 |.int _,.str _,_,_,h=>by unfold PyData.eqv at h; cases h
 |.int _,.tuple _,_,_,h=>by unfold PyData.eqv at h; cases h
 |.str _,.int _,_,_,h=>by unfold PyData.eqv at h; cases h
 |.str _,.tuple _,_,_,h=>by unfold PyData.eqv at h; cases h
 |.tuple _,.int _,_,_,h=>by unfold PyData.eqv at h; cases h
 |.tuple _,.str _,_,_,h=>by unfold PyData.eqv at h; cases h
 |.none,_,h,_,_=>by unfold jV at h; cases h
 |.bool _,_,h,_,_=>by unfold jV at h; cases h
 |.list _,_,h,_,_=>by unfold jV at h; cases h
 |.dict _,_,h,_,_=>by unfold jV at h; cases h
 |_,.none,_,h,_=>by unfold jV at h; cases h
 |_,.bool _,_,h,_=>by unfold jV at h; cases h
 |_,.list _,_,h,_=>by unfold jV at h; cases h
 |_,.dict _,_,h,_=>by unfold jV at h; cases h
theorem qT:∀(xs ys:List PyData),zd xs=true->zd ys=true->PyData.eqvAll xs ys=true->xs=ys
 |[],[],_,_,_=>rfl
 |[],_::_,_,_,h=>by unfold PyData.eqvAll at h; cases h
 |_::_,[],_,_,h=>by unfold PyData.eqvAll at h; cases h
 |x::xs,y::ys,h1,h2,h=>by
  unfold PyData.eqvAll at h
  unfold zd at h1 h2
  rw [Bool.and_eq_true] at h h1 h2
  rw [zQ x y h1.1 h2.1 h.1,qT xs ys h1.2 h2.2 h.2]
end
mutual
theorem uG:∀(x:PyData),jV x=true->PyData.eqv x x=true
 |.int i,_=>by unfold PyData.eqv; exact beq_self_eq_true i
 |.str x,_=>by unfold PyData.eqv; exact beq_self_eq_true x
 |.tuple xs,h=>by unfold PyData.eqv; unfold jV at h; exact nG xs h
 |.none,h=>by unfold jV at h; cases h
 |.bool _,h=>by unfold jV at h; cases h
 |.list _,h=>by unfold jV at h; cases h
 |.dict _,h=>by unfold jV at h; cases h
theorem nG:∀(xs:List PyData),zd xs=true->PyData.eqvAll xs xs=true
 |[],_=>by unfold PyData.eqvAll; rfl
 |x::r,h=>by
  unfold PyData.eqvAll
  unfold zd at h
  rw [Bool.and_eq_true] at h
  rw [uG x h.1,nG r h.2]; rfl
end
mutual
theorem xq:∀(x y:PyData) (b:Bool),jV x=true->jV y=true->cD true x y=some b->∀r1 r2:List Int,
  (x=y/\b=false)\/(x≠y/\ll (nF x++r1) (nF y++r2)=b/\ll (nF y++r2) (nF x++r1)=!b)
 |.int i,.int j,b,_,_,h,r1,r2=>by
  unfold cD cI at h
  cases h
  unfold nF
  show _\/(_/\ll (i::r1) (j::r2)=_/\ll (j::r2) (i::r1)=_)
  rw [cz,cz]
  by_cases e:i=j
  ·subst e; exact .inl ⟨rfl,0x4⟩
  ·rw [if_neg e,if_neg (Ne.symm e)]
   refine .inr ⟨fun q=>e (by cases q; rfl),0x4,?_⟩
   by_cases q:i<j
   ·simp [q]; lia
   ·simp [q]; lia
 |.str x,.str y,b,_,_,h,r1,r2=>by
  unfold cD cS at h
  cases h
  unfold nF
  simp only [if_true]
  rcases xP x.cps.toList y.cps.toList r1 r2 with ⟨q1,q2⟩|q
  ·have:x=y:=by
    cases x; cases y
    congr 1
    exact Array.toList_inj.mp q1
   subst this
   exact .inl ⟨rfl,q2⟩
  ·exact .inr ⟨fun e=>q.1 (by cases e; rfl),q.2⟩
 |.tuple xs,.tuple ys,b,h1,h2,h,r1,r2=>by
  unfold cD at h
  unfold jV at h1 h2
  unfold nF
  rcases u4 xs ys b h1 h2 h r1 r2 with ⟨q1,q2⟩|⟨q1,q2⟩
  ·exact .inl ⟨by rw [q1],q2⟩
  ·exact .inr ⟨fun e=>q1 (by cases e; rfl),q2⟩
 |.int _,.str _,_,_,_,h,_,_=>by unfold cD at h; cases h
 |.int _,.tuple _,_,_,_,h,_,_=>by unfold cD at h; cases h
 |.str _,.int _,_,_,_,h,_,_=>by unfold cD at h; cases h
 |.str _,.tuple _,_,_,_,h,_,_=>by unfold cD at h; cases h
 |.tuple _,.int _,_,_,_,h,_,_=>by unfold cD at h; cases h
 |.tuple _,.str _,_,_,_,h,_,_=>by unfold cD at h; cases h
 |.none,_,_,h,_,_,_,_=>by unfold jV at h; cases h
 |.bool _,_,_,h,_,_,_,_=>by unfold jV at h; cases h
 |.list _,_,_,h,_,_,_,_=>by unfold jV at h; cases h
 |.dict _,_,_,h,_,_,_,_=>by unfold jV at h; cases h
 |_,.none,_,_,h,_,_,_=>by unfold jV at h; cases h
 |_,.bool _,_,_,h,_,_,_=>by unfold jV at h; cases h
 |_,.list _,_,_,h,_,_,_=>by unfold jV at h; cases h
 |_,.dict _,_,_,h,_,_,_=>by unfold jV at h; cases h
theorem u4:∀(xs ys:List PyData) (b:Bool),zd xs=true->zd ys=true->cL true xs ys=some b->∀r1 r2:List Int,
  (xs=ys/\b=false)\/(xs≠ys/\ll (ij xs++r1) (ij ys++r2)=b/\ll (ij ys++r2) (ij xs++r1)=!b)
 |[],[],b,_,_,h,_,_=>by unfold cL at h; cases h; exact .inl ⟨rfl,rfl⟩
 |[],y::ys,b,_,_,h,r1,r2=>by
  unfold cL at h; cases h
  refine .inr ⟨0x4,?_⟩
  unfold ij
  show ll (0::r1) (1::(nF y++ij ys++r2))=_/\ll (1::(nF y++ij ys++r2)) (0::r1)=_
  rw [cz,cz]
  exact ⟨rfl,rfl⟩
 |x::xs,[],b,_,_,h,r1,r2=>by
  unfold cL at h; cases h
  refine .inr ⟨0x4,?_⟩
  unfold ij
  show ll (1::(nF x++ij xs++r1)) (0::r2)=_/\ll (0::r2) (1::(nF x++ij xs++r1))=_
  rw [cz,cz]
  exact ⟨rfl,rfl⟩
 |x::xs,y::ys,b,h1,h2,h,r1,r2=>by
  unfold cL at h
  unfold zd at h1 h2
  rw [Bool.and_eq_true] at h1 h2
  have e1:ij (x::xs)++r1=1::(nF x++(ij xs++r1)):=by rw [ij]; simp
  have e2:ij (y::ys)++r2=1::(nF y++(ij ys++r2)):=by rw [ij]; simp
  rw [e1,e2,cz,cz,if_pos rfl,if_pos rfl]
  by_cases e:PyData.eqv x y=true
  ·rw [if_pos e] at h
   have exy:=zQ x y h1.1 h2.1 e
   subst exy
   have z:∀(l r1 r2:List Int),ll (l++r1) (l++r2)=ll r1 r2:=fun l r1 r2=>by
    induction l with
    |nil=>rfl
    |cons u l ih=>show ll (u::(l++r1)) (u::(l++r2))=_; rw [cz,if_pos rfl]; exact ih
   rw [z,z]
   rcases u4 xs ys b h1.2 h2.2 h r1 r2 with ⟨q1,q2⟩|⟨q1,q2⟩
   ·exact .inl ⟨by rw [q1],q2⟩
   ·exact .inr ⟨fun e=>q1 (by cases e; rfl),q2⟩
  ·rw [if_neg e] at h
   rcases xq x y b h1.1 h2.1 h (ij xs++r1) (ij ys++r2) with ⟨q1,q2⟩|⟨q1,q2⟩
   ·subst q1
    exact absurd (uG x h1.1) e
   ·exact .inr ⟨fun e=>q1 (by cases e; rfl),q2⟩
end
theorem GK {x y:PyData} {b:Bool} (h1:jV x=true) (h2:jV y=true) (h:cD true x y=some b):ll (nF x) (nF y)=b:=by
 rcases xq x y b h1 h2 h [] [] with ⟨q1,q2⟩|⟨_,q,_⟩
 ·rw [q1,q2]; exact fH _
 ·simpa using q
end L3
namespace LW
open PySem PySem.Spec L2 L3
noncomputable def uo (C:Addr):DS->M Out:=(bE (aW 4 (e2 gSub (e2 aH (af 2) (af 3)) (eC (.int 1)))) (aZ (nP (e2 Cg (af 3) (eC (.int 3))) (nP (aL (ax 2 (bR C)) (aa (af 0) (aa (bf (aa (af 2) (aa (af 1) aj))) aj))) (aL (ax 2 (bR C)) (aa (af 0) (aa (bf (aa (af 4) (aa (af 1) aj))) aj)))))))
noncomputable def jv (C:Addr):List DV->M DV:=eG ["house", "colour", "first", "size", "last"] (uo C)
noncomputable def qg (C:Addr):DS->M Out:=(bE (fQ (fun δ=>bd (e2 fJ (aL dF (aa (af 2) aj)) (eC (.int 3)) δ) bI) (aZ (eC (.bool false))) bP) (bE (fQ (gP (fun δ=>bd ((aL qz (aa (bb 1 [0,1] (FD (af 2)) (ar 0) bY (aL (ax 2 (bR C)) (aa (af 1) (aa (bf (aa (af 2) (aa (af 0) aj))) aj)))) aj)) δ) bI)) (aZ (eC (.bool false))) bP) (aZ (aL qz (aa (bb 1 [2] (qI (aa (eC (.int 1)) (aa (aL dF (aa (af 2) aj)) aj))) (ar 0) bY (e2 fJ (e2 bN (af 1) (e2 gSub (af 0) (eC (.int 1)))) (e2 bN (af 1) (af 0)))) aj)))))
noncomputable def gO (C:Addr):List DV->M DV:=eG ["house", "number", "colours"] (qg C)
noncomputable def mK (C:Addr):DS->M Out:=(bE (fQ (fun δ=>bd (e2 (g7 false) (e2 bN (af 1) (eC (.int 0))) (eC (.str "run")) δ) bI) (aZ (aL (ax 4 (jv C)) (aa (af 0) (aa (e2 bN (af 1) (eC (.int 1))) (aa (e2 bN (af 1) (eC (.int 2))) (aa (e2 bN (af 1) (eC (.int 3))) aj)))))) bP) (aZ (nP (e2 (g7 false) (e2 bN (af 1) (eC (.int 0))) (eC (.str "group"))) (aL (ax 3 (gO C)) (aa (af 0) (aa (e2 bN (af 1) (eC (.int 1))) (aa (e2 bN (af 1) (eC (.int 2))) aj)))))))
noncomputable def cR (C:Addr):List DV->M DV:=eG ["house", "meld"] (mK C)
noncomputable def kX (C:Addr) (Kb:Addr):DS->M Out:=(bE (fQ (gP (fun δ=>bd ((aL (ax 2 (cR C)) (aa (af 0) (aa (af 1) aj))) δ) bI)) (fun _=>some (.error (.ref Kb))) bP) (bE (fQ (fun δ=>bd (e2 (g7 false) (e2 bN (af 1) (eC (.int 0))) (eC (.str "run")) δ) bI) (aZ (bb 1 [1] (qW (aa (e2 bN (af 1) (eC (.int 3))) aj)) (ar 0) bY (bf (aa (e2 aH (e2 bN (af 1) (eC (.int 2))) (af 0)) (aa (e2 bN (af 1) (eC (.int 1))) aj))))) bP) (aZ (bb 1 [1] (FD (e2 bN (af 1) (eC (.int 2)))) (ar 0) bY (bf (aa (e2 bN (af 1) (eC (.int 1))) (aa (af 0) aj)))))))
noncomputable def bu (C:Addr) (Kb:Addr):List DV->M DV:=eG ["house", "meld"] (kX C Kb)
noncomputable def iA (C:Addr):DS->M Out:=(bE (aW 1 (cC (aa (bf aj) aj))) (bE (dZ (qW (aa (ft C "colours" (af 0)) aj)) (ar 2) (fun δ=>(aW 1 (e2 aH (af 1) (bb 1 [2] (kG (af 1)) (ar 0) bY (e2 aH (af 0) (bf (aa (af 1) aj)))))) (frz 1 δ))) (fun δ=>(aZ (aL kY (aa (bb 1 [] (kG (af 1)) (ar 0) (fun δ=>bd (e2 Cg (aL dF (aa (af 0) aj)) (eC (.int 3)) δ) bI) (af 0)) aj))) (frz 1 δ))))
noncomputable def b8 (C:Addr):List DV->M DV:=eG ["house", "choices", "colour"] (iA C)
noncomputable def l0 (C:Addr):DS->M Out:=(bE (aW 1 (aL (ax 1 (b8 C)) (aa (af 0) aj))) (bE (aW 2 (cC aj)) (bE (dZ (qI (aa (eC (.int 1)) (aa (e2 aH (ft C "most" (af 0)) (eC (.int 1))) aj))) (ar 3) (fun δ=>(lr 2 (bb 1 [3] (kG (af 1)) (ar 0) bY (bf (aa (eC (.str "group")) (aa (af 1) (aa (af 0) aj)))))) (frz 1 δ))) (aZ (af 2)))))
noncomputable def dQ (C:Addr):List DV->M DV:=eG ["house", "choices", "found", "number"] (l0 C)
noncomputable def oV (C:Addr):DS->M Out:=(bE (aW 1 (cC aj)) (bE (dZ (qW (aa (ft C "colours" (af 0)) aj)) (ar 2) (dZ (qI (aa (eC (.int 1)) (aa (e2 aH (ft C "most" (af 0)) (eC (.int 1))) aj))) (ar 3) (bE (aW 4 (e2 aH (e2 gSub (ft C "most" (af 0)) (af 3)) (eC (.int 1)))) (lr 1 (bb 1 [2,3] (qI (aa (eC (.int 3)) (aa (e2 aH (af 4) (eC (.int 1))) aj))) (ar 0) bY (bf (aa (eC (.str "run")) (aa (af 1) (aa (af 2) (aa (af 0) aj)))))))))) (aZ (af 1))))
noncomputable def fF (C:Addr):List DV->M DV:=eG ["house", "found", "colour", "first", "room"] (oV C)
noncomputable def xF (C:Addr):DS->M Out:=(aZ (e2 aH (aL (ax 1 (dQ C)) (aa (af 0) aj)) (aL (ax 1 (fF C)) (aa (af 0) aj))))
noncomputable def lG (C:Addr):List DV->M DV:=eG ["house"] (xF C)
noncomputable def iQ:DS->M Out:=(bE (fQ (fun δ=>bd (e2 (g7 false) (e2 bN (af 0) (eC (.int 0))) (eC (.str "run")) δ) bI) (aZ (bb 1 [0] (qW (aa (e2 bN (af 0) (eC (.int 3))) aj)) (ar 0) bY (bf (aa (e2 aH (e2 bN (af 1) (eC (.int 2))) (af 0)) (aa (e2 bN (af 1) (eC (.int 1))) aj))))) bP) (aZ (bb 1 [0] (FD (e2 bN (af 0) (eC (.int 2)))) (ar 0) bY (bf (aa (e2 bN (af 1) (eC (.int 1))) (aa (af 0) aj))))))
noncomputable def cW:List DV->M DV:=eG ["meld"] (iQ)
section
variable {F G:DS->M Out} {f fa fb fc fd:DS->M DV} {fr:DS->M (List DV)} {gc:DS->M Bool} {g:DV->DV->M DV} {δ δ':DS} {x y z u:DV} {k:Bool}
theorem Ah {a b:Bool} (h1:fa δ=rt (.d (.bool a))) (h2:fb δ=rt (.d (.bool b))):nP fa fb δ=rt (.d (.bool (a&&b))):=by
 unfold nP
 rw [h1,aE,xC,aE,h2]
 cases a <;> rfl
theorem xy (h1:fa δ=rt x) (h2:fb δ=rt y) (h3:fc δ=rt z) (h4:fd δ=rt u):aa fa (aa fb (aa fc (aa fd aj))) δ=rt [x,y,z,u]:=by
 have:=dG h2 h3 h4
 unfold aa at this ⊢
 rw [h1,aE,this]; rfl
theorem HV {a b c:D} (h1:fa δ=rt (.d a)) (h2:fb δ=rt (.d b)) (h3:fc δ=rt (.d c)):bf (aa fa (aa fb (aa fc aj))) δ=rt (.d (.tuple [a,b,c])):=by
 unfold bf
 rw [dG h1 h2 h3]
 rfl
theorem HQ {a b c e:D} (h1:fa δ=rt (.d a)) (h2:fb δ=rt (.d b)) (h3:fc δ=rt (.d c)) (h4:fd δ=rt (.d e)):bf (aa fa (aa fb (aa fc (aa fd aj)))) δ=rt (.d (.tuple [a,b,c,e])):=by
 unfold bf
 rw [xy h1 h2 h3 h4]
 rfl
theorem kL (h:gc δ=rt true):fQ gc F G δ=F δ:=by rw [iB h]; rfl
theorem pY (h:gc δ=rt false):fQ gc F G δ=G δ:=by rw [iB h]; rfl
theorem wK {xs:List D} (h:f δ=rt (.d (.tuple xs))):FD f δ=rt xs:=by unfold FD; rw [h]; rfl
theorem sQ {xs:List D} (h:f δ=rt (.new xs)):kG f δ=rt xs:=by unfold kG; rw [h]; rfl
theorem tZ {i:Nat} {xs ys:List D} (hi:δ[i]?=some (some (.own xs))) (h:f δ=rt (.new ys)) (hl:xs.length+ys.length<=1000000):lr i f δ=rt (.nx (δ.set i (some (.own (xs++ys))))):=by
 unfold lr
 rw [hi]
 simp only
 rw [h,aE]
 exact if_pos hl
end
theorem b9 (i j:Int):aH (.d (.int i)) (.d (.int j))=rt (.d (.int (i+j))):=rfl
theorem oz {x y:DV} {xs ys:List D} (h0:BJ x y=none) (hx:mj x=some xs) (hy:mj y=some ys) (hl:xs.length+ys.length<=1000000):aH x y=rt (.new (xs++ys)):=by
 unfold aH AZ
 rw [Bd h0 hx hy hl]
 rfl
noncomputable def rn (c f n:Int):D:=.tuple [.str "run",.int c,.int f,.int n]
noncomputable def tp (cs:List Int):D:=.tuple (cs.map PyData.int)
noncomputable def gp (n:Int) (cs:List Int):D:=.tuple [.str "group",.int n,tp cs]
theorem oX:PyData.eqv (.str "run") (.str "run")=true:=by decide +kernel
theorem pj:PyData.eqv (.str "group") (.str "run")=false:=by decide +kernel
theorem BF:PyData.eqv (.str "run") (.str "group")=false:=by decide +kernel
theorem wq:PyData.eqv (.str "group") (.str "group")=true:=by decide +kernel
theorem pE {a b:Str} {k:Bool} (h:PyData.eqv (.str a) (.str b)=k):g7 false (.d (.str a)) (.d (.str b))=rt (.d (.bool k)):=by
 unfold g7
 rw [qU,qU]
 simp only [Bool.false_eq_true,if_false,h]
 exact if_pos (by unfold PyData.depth; lia)
noncomputable def lW (m c col f n:Int):Bool:=decide (3<=n)&&(aX m c (f,col)&&aX m c (f+n-1,col))
theorem Bl {C:Addr} {m c a b:Int} {fa fb:DS->M DV} {δ:DS} (h1:fa δ=rt (hs C m c)) (h2:fb δ=rt (.d (pr (a,b)))):aL (ax 2 (bR C)) (aa fa (aa fb aj)) δ=rt (.d (.bool (aX m c (a,b)))):=
 bB (bH h1 h2) rfl rfl (Bz C m c (a,b))
theorem zG (C:Addr) (m c col f n:Int):jv C [hs C m c,.d (.int col),.d (.int f),.d (.int n)]=rt (.d (.bool (lW m c col f n))):=by
 unfold jv uo eG
 have hd:nc ["house", "colour", "first", "size", "last"] [hs C m c,.d (.int col),.d (.int f),.d (.int n)]=[some (hs C m c),some (.d (.int col)),some (.d (.int f)),some (.d (.int n)),none]:=rfl
 rw [hd]
 have s1:aW 4 (e2 gSub (e2 aH (af 2) (af 3)) (eC (.int 1))) [some (hs C m c),some (.d (.int col)),some (.d (.int f)),some (.d (.int n)),none]=rt (.nx [some (hs C m c),some (.d (.int col)),some (.d (.int f)),some (.d (.int n)),some (.d (.int (f+n-1)))]):=
  lu (x:=.d (.int (f+n-1))) ((au ((au rfl rfl).trans (b9 f n)) rfl).trans (dE _ _)) rfl
 rw [cF s1]
 rw [bC (Ah ((au (x:=.d (.int n)) (y:=.d (.int 3)) rfl rfl).trans (iS _ _)) (Ah (Bl (a:=f) (b:=col) rfl (jH rfl rfl)) (Bl (a:=f+n-1) (b:=col) rfl (jH rfl rfl))))]
 rfl
noncomputable def asc (cs:List Int):Bool:=(List.range (cs.length-1)).all fun k=>decide (cs.getD k 0<cs.getD (k+1) 0)
noncomputable def l5 (m c n:Int) (cs:List Int):Bool:=decide (3<=cs.length)&&cs.all (fun x=>aX m c (n,x))&&asc cs
theorem xD (cs:List Int):dF [.d (tp cs)]=rt (.d (.int (cs.length:Int))):=by
 show rt (DV.d (.int ((cs.map PyData.int).length:Int)))=_
 rw [List.length_map]
theorem wF (C:Addr) (m c n:Int) (cs:List Int) (hl:cs.length<=900):gO C [hs C m c,.d (.int n),.d (tp cs)]=rt (.d (.bool (l5 m c n cs))):=by
 unfold gO qg eG
 have hd:nc ["house", "number", "colours"] [hs C m c,.d (.int n),.d (tp cs)]=[some (hs C m c),some (.d (.int n)),some (.d (tp cs))]:=rfl
 rw [hd]
 have t1:(fun δ=>bd (e2 fJ (aL dF (aa (af 2) aj)) (eC (.int 3)) δ) bI) [some (hs C m c),some (.d (.int n)),some (.d (tp cs))]=rt (decide ((cs.length:Int)<3)):=
  a8 ((au (y:=.d (.int 3)) ((cj (bh (x:=.d (tp cs)) rfl)).trans (xD cs)) rfl).trans (dw _ _))
 unfold l5
 by_cases h3:3<=cs.length
 ·have e3:decide ((cs.length:Int)<3)=false:=decide_eq_false 0x1
  rw [e3] at t1
  rw [cF ((pY t1).trans (show bP _=_ from rfl))]
  have c1:cO (ar 0) bY (aL (ax 2 (bR C)) (aa (af 1) (aa (bf (aa (af 2) (aa (af 0) aj))) aj))) (cT 1 [0,1] [some (hs C m c),some (.d (.int n)),some (.d (tp cs))]) (cs.map PyData.int)=some ((cs.map fun x=>aX m c (n,x)).map PyData.bool):=by
   rw [List.map_map]
   refine dq fun x hx=>?_
   exact Bl (a:=n) (b:=x) rfl (jH rfl rfl)
  have t2:(gP (fun δ=>bd ((aL qz (aa (bb 1 [0,1] (FD (af 2)) (ar 0) bY (aL (ax 2 (bR C)) (aa (af 1) (aa (bf (aa (af 2) (aa (af 0) aj))) aj)))) aj)) δ) bI)) [some (hs C m c),some (.d (.int n)),some (.d (tp cs))]=rt (!cs.all fun x=>aX m c (n,x)):=by
   refine su (a8 ((cj (bh (bp (wK (xs:=cs.map PyData.int) rfl) (by rw [List.length_map]; lia) c1))).trans ?_))
   rw [l6,List.all_map]
   rfl
  cases ha:cs.all fun x=>aX m c (n,x) with
  |false=>
   rw [ha] at t2
   rw [qP ((kL t2).trans (bC (x:=.d (.bool false)) rfl))]
   rw [Bool.and_false,Bool.false_and]
   rfl
  |true=>
   rw [ha] at t2
   rw [cF ((pY t2).trans (show bP _=_ from rfl))]
   have hat:∀k:Nat,k<cs.length->atI (cs.map PyData.int) (k:Int)=some (.int (cs.getD k 0)):=fun k hk=>by
    rw [ub (by rw [List.length_map]; exact hk) (.int 0)]
    simp [hk]
   have c2:cO (ar 0) bY (e2 fJ (e2 bN (af 1) (e2 gSub (af 0) (eC (.int 1)))) (e2 bN (af 1) (af 0))) (cT 1 [2] [some (hs C m c),some (.d (.int n)),some (.d (tp cs))]) (df 1 ((cs.length:Int)-1).toNat)=some (((List.range (cs.length-1)).map fun k=>decide (cs.getD k 0<cs.getD (k+1) 0)).map PyData.bool):=by
    rw [show ((cs.length:Int)-1).toNat=cs.length-1 by lia,List.map_map]
    unfold df
    refine dq fun k hk=>?_
    have hk':k<cs.length-1:=List.mem_range.mp hk
    have i1:e2 bN (af 1) (e2 gSub (af 0) (eC (.int 1))) ((cT 1 [2] [some (hs C m c),some (.d (.int n)),some (.d (tp cs))]).set 0 (some (.d (.int (1+(k:Int))))))=rt (.d (.int (cs.getD k 0))):=by
     refine (au (x:=.d (tp cs)) rfl ((au (x:=.d (.int (1+(k:Int)))) rfl rfl).trans (dE _ _))).trans (aK ?_)
     rw [show (1+(k:Int)-1)=(k:Int) by lia]
     exact hat k 0x1
    have i2:e2 bN (af 1) (af 0) ((cT 1 [2] [some (hs C m c),some (.d (.int n)),some (.d (tp cs))]).set 0 (some (.d (.int (1+(k:Int))))))=rt (.d (.int (cs.getD (k+1) 0))):=by
     refine (au (x:=.d (tp cs)) (y:=.d (.int (1+(k:Int)))) rfl rfl).trans (aK ?_)
     rw [show (1+(k:Int))=((k+1:Nat):Int) by lia]
     exact hat (k+1) 0x1
    exact (au i1 i2).trans (dw _ _)
   have DI:aL dF (aa (af 2) aj) [some (hs C m c),some (.d (.int n)),some (.d (tp cs))]=rt (.d (.int (cs.length:Int))):=(cj (bh (x:=.d (tp cs)) rfl)).trans (xD cs)
   have e1:aL qz (aa (bb 1 [2] (qI (aa (eC (.int 1)) (aa (aL dF (aa (af 2) aj)) aj))) (ar 0) bY (e2 fJ (e2 bN (af 1) (e2 gSub (af 0) (eC (.int 1)))) (e2 bN (af 1) (af 0)))) aj) [some (hs C m c),some (.d (.int n)),some (.d (tp cs))]=rt (.d (.bool (asc cs))):=by
    refine (cj (bh (bp (jI (bH (x:=.d (.int 1)) rfl DI) 0x1 0x1 0x1 0x1) (by rw [eZ]; lia) c2))).trans ?_
    rw [l6,List.all_map]
    rfl
   rw [bC e1]
   rw [decide_eq_true h3]
   rfl
 ·have e3:decide ((cs.length:Int)<3)=true:=decide_eq_true 0x1
  rw [e3] at t1
  rw [qP ((kL t1).trans (bC (x:=.d (.bool false)) rfl))]
  rw [decide_eq_false h3]
  rfl
theorem wk (C:Addr) (m c col f n:Int):cR C [hs C m c,.d (rn col f n)]=rt (.d (.bool (lW m c col f n))):=by
 unfold cR mK eG
 have hd:nc ["house", "meld"] [hs C m c,.d (rn col f n)]=[some (hs C m c),some (.d (rn col f n))]:=rfl
 rw [hd]
 have t1:(fun δ=>bd (e2 (g7 false) (e2 bN (af 1) (eC (.int 0))) (eC (.str "run")) δ) bI) [some (hs C m c),some (.d (rn col f n))]=rt true:=
  a8 ((au ((au (x:=.d (rn col f n)) rfl rfl).trans (aK rfl)) rfl).trans (pE oX))
 have i1:e2 bN (af 1) (eC (.int 1)) [some (hs C m c),some (.d (rn col f n))]=rt (.d (.int col)):=(au (x:=.d (rn col f n)) rfl rfl).trans (aK rfl)
 have i2:e2 bN (af 1) (eC (.int 2)) [some (hs C m c),some (.d (rn col f n))]=rt (.d (.int f)):=(au (x:=.d (rn col f n)) rfl rfl).trans (aK rfl)
 have i3:e2 bN (af 1) (eC (.int 3)) [some (hs C m c),some (.d (rn col f n))]=rt (.d (.int n)):=(au (x:=.d (rn col f n)) rfl rfl).trans (aK rfl)
 rw [qP ((kL t1).trans (bC (bB (n:=4) (xy (fa:=af 0) (x:=hs C m c) rfl i1 i2 i3) rfl rfl (zG C m c col f n))))]
 rfl
theorem vZ (C:Addr) (m c n:Int) (cs:List Int) (hl:cs.length<=900):cR C [hs C m c,.d (gp n cs)]=rt (.d (.bool (l5 m c n cs))):=by
 unfold cR mK eG
 have hd:nc ["house", "meld"] [hs C m c,.d (gp n cs)]=[some (hs C m c),some (.d (gp n cs))]:=rfl
 rw [hd]
 have t1:(fun δ=>bd (e2 (g7 false) (e2 bN (af 1) (eC (.int 0))) (eC (.str "run")) δ) bI) [some (hs C m c),some (.d (gp n cs))]=rt false:=
  a8 ((au ((au (x:=.d (gp n cs)) rfl rfl).trans (aK rfl)) rfl).trans (pE pj))
 have i0:e2 (g7 false) (e2 bN (af 1) (eC (.int 0))) (eC (.str "group")) [some (hs C m c),some (.d (gp n cs))]=rt (.d (.bool true)):=(au ((au (x:=.d (gp n cs)) rfl rfl).trans (aK rfl)) rfl).trans (pE wq)
 have i1:e2 bN (af 1) (eC (.int 1)) [some (hs C m c),some (.d (gp n cs))]=rt (.d (.int n)):=(au (x:=.d (gp n cs)) rfl rfl).trans (aK rfl)
 have i2:e2 bN (af 1) (eC (.int 2)) [some (hs C m c),some (.d (gp n cs))]=rt (.d (tp cs)):=(au (x:=.d (gp n cs)) rfl rfl).trans (aK rfl)
 rw [cF ((pY t1).trans (show bP _=_ from rfl))]
 rw [bC (Ah i0 (bB (n:=3) (dG (fa:=af 0) (x:=hs C m c) rfl i1 i2) rfl rfl (wF C m c n cs hl)))]
 rfl
noncomputable def jG (col f n:Int):List D:=(List.range n.toNat).map fun (k:Nat)=>pr (f+(k:Int),col)
noncomputable def jE (n:Int) (cs:List Int):List D:=cs.map fun x=>pr (n,x)
theorem u6 (C E:Addr) (m c col f n:Int) (h0:-1000<=n) (h1:n<=1000):bu C E [hs C m c,.d (rn col f n)]=if lW m c col f n=true then rt (.new (jG col f n)) else some (.error (.ref E)):=by
 unfold bu kX eG
 have hd:nc ["house", "meld"] [hs C m c,.d (rn col f n)]=[some (hs C m c),some (.d (rn col f n))]:=rfl
 rw [hd]
 have t0:(gP (fun δ=>bd ((aL (ax 2 (cR C)) (aa (af 0) (aa (af 1) aj))) δ) bI)) [some (hs C m c),some (.d (rn col f n))]=rt (!lW m c col f n):=
  su (a8 (bB (bH (x:=hs C m c) (y:=.d (rn col f n)) rfl rfl) rfl rfl (wk C m c col f n)))
 cases hr:lW m c col f n with
 |false=>
  rw [hr] at t0
  have:fQ (gP (fun δ=>bd ((aL (ax 2 (cR C)) (aa (af 0) (aa (af 1) aj))) δ) bI)) (fun _=>some (.error (.ref E))) bP [some (hs C m c),some (.d (rn col f n))]=some (.error (.ref E)):=kL t0
  unfold bE
  rw [this]
  rfl
 |true=>
  rw [hr] at t0
  rw [cF ((pY t0).trans (show bP _=_ from rfl))]
  have t1:(fun δ=>bd (e2 (g7 false) (e2 bN (af 1) (eC (.int 0))) (eC (.str "run")) δ) bI) [some (hs C m c),some (.d (rn col f n))]=rt true:=
   a8 ((au ((au (x:=.d (rn col f n)) rfl rfl).trans (aK rfl)) rfl).trans (pE oX))
  have i3:e2 bN (af 1) (eC (.int 3)) [some (hs C m c),some (.d (rn col f n))]=rt (.d (.int n)):=(au (x:=.d (rn col f n)) rfl rfl).trans (aK rfl)
  have c1:cO (ar 0) bY (bf (aa (e2 aH (e2 bN (af 1) (eC (.int 2))) (af 0)) (aa (e2 bN (af 1) (eC (.int 1))) aj))) (cT 1 [1] [some (hs C m c),some (.d (rn col f n))]) (df 0 n.toNat)=some (jG col f n):=by
   unfold df jG
   refine dq fun k hk=>?_
   have q1:e2 bN (af 1) (eC (.int 2)) ((cT 1 [1] [some (hs C m c),some (.d (rn col f n))]).set 0 (some (.d (.int (0+(k:Int))))))=rt (.d (.int f)):=(au (x:=.d (rn col f n)) rfl rfl).trans (aK rfl)
   have q2:e2 bN (af 1) (eC (.int 1)) ((cT 1 [1] [some (hs C m c),some (.d (rn col f n))]).set 0 (some (.d (.int (0+(k:Int))))))=rt (.d (.int col)):=(au (x:=.d (rn col f n)) rfl rfl).trans (aK rfl)
   refine (jH ((au (y:=.d (.int (0+(k:Int)))) q1 rfl).trans (b9 _ _)) q2).trans ?_
   rw [Int.zero_add]; rfl
  rw [qP ((kL t1).trans (bC (bp (jK (bh i3) h0 h1) (by rw [eZ]; lia) c1)))]
  rfl
theorem vm (C E:Addr) (m c n:Int) (cs:List Int) (hl:cs.length<=900):bu C E [hs C m c,.d (gp n cs)]=if l5 m c n cs=true then rt (.new (jE n cs)) else some (.error (.ref E)):=by
 unfold bu kX eG
 have hd:nc ["house", "meld"] [hs C m c,.d (gp n cs)]=[some (hs C m c),some (.d (gp n cs))]:=rfl
 rw [hd]
 have t0:(gP (fun δ=>bd ((aL (ax 2 (cR C)) (aa (af 0) (aa (af 1) aj))) δ) bI)) [some (hs C m c),some (.d (gp n cs))]=rt (!l5 m c n cs):=
  su (a8 (bB (bH (x:=hs C m c) (y:=.d (gp n cs)) rfl rfl) rfl rfl (vZ C m c n cs hl)))
 cases hr:l5 m c n cs with
 |false=>
  rw [hr] at t0
  have:fQ (gP (fun δ=>bd ((aL (ax 2 (cR C)) (aa (af 0) (aa (af 1) aj))) δ) bI)) (fun _=>some (.error (.ref E))) bP [some (hs C m c),some (.d (gp n cs))]=some (.error (.ref E)):=kL t0
  unfold bE
  rw [this]
  rfl
 |true=>
  rw [hr] at t0
  rw [cF ((pY t0).trans (show bP _=_ from rfl))]
  have t1:(fun δ=>bd (e2 (g7 false) (e2 bN (af 1) (eC (.int 0))) (eC (.str "run")) δ) bI) [some (hs C m c),some (.d (gp n cs))]=rt false:=
   a8 ((au ((au (x:=.d (gp n cs)) rfl rfl).trans (aK rfl)) rfl).trans (pE pj))
  rw [cF ((pY t1).trans (show bP _=_ from rfl))]
  have i2:e2 bN (af 1) (eC (.int 2)) [some (hs C m c),some (.d (gp n cs))]=rt (.d (tp cs)):=(au (x:=.d (gp n cs)) rfl rfl).trans (aK rfl)
  have c1:cO (ar 0) bY (bf (aa (e2 bN (af 1) (eC (.int 1))) (aa (af 0) aj))) (cT 1 [1] [some (hs C m c),some (.d (gp n cs))]) (cs.map PyData.int)=some (jE n cs):=by
   unfold jE
   refine dq fun x hx=>?_
   have q1:e2 bN (af 1) (eC (.int 1)) ((cT 1 [1] [some (hs C m c),some (.d (gp n cs))]).set 0 (some (.d (.int x))))=rt (.d (.int n)):=(au (x:=.d (gp n cs)) rfl rfl).trans (aK rfl)
   exact jH q1 rfl
  rw [bC (bp (wK i2) (by rw [List.length_map]; lia) c1)]
  rfl
theorem nU (col f n:Int) (h0:-1000<=n) (h1:n<=1000):cW [.d (rn col f n)]=rt (.new (jG col f n)):=by
 unfold cW iQ eG
 have hd:nc ["meld"] [.d (rn col f n)]=[some (.d (rn col f n))]:=rfl
 rw [hd]
 have t1:(fun δ=>bd (e2 (g7 false) (e2 bN (af 0) (eC (.int 0))) (eC (.str "run")) δ) bI) [some (.d (rn col f n))]=rt true:=
  a8 ((au ((au (x:=.d (rn col f n)) rfl rfl).trans (aK rfl)) rfl).trans (pE oX))
 have i3:e2 bN (af 0) (eC (.int 3)) [some (.d (rn col f n))]=rt (.d (.int n)):=(au (x:=.d (rn col f n)) rfl rfl).trans (aK rfl)
 have c1:cO (ar 0) bY (bf (aa (e2 aH (e2 bN (af 1) (eC (.int 2))) (af 0)) (aa (e2 bN (af 1) (eC (.int 1))) aj))) (cT 1 [0] [some (.d (rn col f n))]) (df 0 n.toNat)=some (jG col f n):=by
  unfold df jG
  refine dq fun k hk=>?_
  have q1:e2 bN (af 1) (eC (.int 2)) ((cT 1 [0] [some (.d (rn col f n))]).set 0 (some (.d (.int (0+(k:Int))))))=rt (.d (.int f)):=(au (x:=.d (rn col f n)) rfl rfl).trans (aK rfl)
  have q2:e2 bN (af 1) (eC (.int 1)) ((cT 1 [0] [some (.d (rn col f n))]).set 0 (some (.d (.int (0+(k:Int))))))=rt (.d (.int col)):=(au (x:=.d (rn col f n)) rfl rfl).trans (aK rfl)
  refine (jH ((au (y:=.d (.int (0+(k:Int)))) q1 rfl).trans (b9 _ _)) q2).trans ?_
  rw [Int.zero_add]; rfl
 rw [qP ((kL t1).trans (bC (bp (jK (bh i3) h0 h1) (by rw [eZ]; lia) c1)))]
 rfl
theorem nJ (n:Int) (cs:List Int) (hl:cs.length<=900):cW [.d (gp n cs)]=rt (.new (jE n cs)):=by
 unfold cW iQ eG
 have hd:nc ["meld"] [.d (gp n cs)]=[some (.d (gp n cs))]:=rfl
 rw [hd]
 have t1:(fun δ=>bd (e2 (g7 false) (e2 bN (af 0) (eC (.int 0))) (eC (.str "run")) δ) bI) [some (.d (gp n cs))]=rt false:=
  a8 ((au ((au (x:=.d (gp n cs)) rfl rfl).trans (aK rfl)) rfl).trans (pE pj))
 rw [cF ((pY t1).trans (show bP _=_ from rfl))]
 have i2:e2 bN (af 0) (eC (.int 2)) [some (.d (gp n cs))]=rt (.d (tp cs)):=(au (x:=.d (gp n cs)) rfl rfl).trans (aK rfl)
 have c1:cO (ar 0) bY (bf (aa (e2 bN (af 1) (eC (.int 1))) (aa (af 0) aj))) (cT 1 [0] [some (.d (gp n cs))]) (cs.map PyData.int)=some (jE n cs):=by
  unfold jE
  refine dq fun x hx=>?_
  have q1:e2 bN (af 1) (eC (.int 1)) ((cT 1 [0] [some (.d (gp n cs))]).set 0 (some (.d (.int x))))=rt (.d (.int n)):=(au (x:=.d (gp n cs)) rfl rfl).trans (aK rfl)
  exact jH q1 rfl
 rw [bC (bp (wK i2) (by rw [List.length_map]; lia) c1)]
 rfl
section
variable {F G:DS->M Out} {f fa fb fc:DS->M DV} {fr:DS->M (List DV)} {gc:DS->M Bool} {g:DV->DV->M DV} {δ δ':DS} {x y z:DV} {k:Bool} {r:M Out}
theorem gf (h:F δ=rt (.nx δ')) (h2:G δ'=r):bE F G δ=r:=(cF h).trans h2
theorem JS (h:gc δ=rt true) (h2:F δ=r):fQ gc F G δ=r:=(iB h).trans h2
theorem CL (h:gc δ=rt false) (h2:G δ=r):fQ gc F G δ=r:=(iB h).trans h2
theorem fC {i:Nat} (h:f δ=rt x) (ha:um x=some y) (h2:δ.set i (some y)=δ'):aW i f δ=rt (.nx δ'):=by rw [lu h ha,h2]
theorem bT {n:Nat} {fm:List DV->M DV} {xs ys:List DV} {w:M DV} (h:fr δ=rt xs) (ha:args xs=some ys) (hn:ys.length=n) (hm:fm ys=w):aL (bq n fm) fr δ=w:=by
 rw [cj h]
 unfold bq
 rw [ha,aR,aE,if_pos hn,hm]
theorem oq (h:f δ=rt x):kJ f δ=rt (.nx δ):=by unfold kJ; rw [h]; rfl
theorem dH {N:List Str} {xs:List DV} (h:F (nc N xs)=rt (.rt x)):eG N F xs=rt (res x):=by unfold eG; rw [h]; rfl
theorem Il {ga gb:DS->M Bool} {b:Bool} (h1:ga δ=rt false) (h2:gb δ=rt b):DF ga gb δ=rt b:=by unfold DF; rw [h1,aE]; exact h2
theorem Bj {ga gb:DS->M Bool} (h1:ga δ=rt false):jo ga gb δ=rt false:=by unfold jo; rw [h1]; rfl
theorem xJ {ga gb:DS->M Bool} {b:Bool} (h1:ga δ=rt true) (h2:gb δ=rt b):jo ga gb δ=rt b:=by unfold jo; rw [h1,aE]; exact h2
theorem xR {ga:DS->M Bool} {a b:Bool} (h1:ga δ=rt a) (hb:(!a)=b):gP ga δ=rt b:=by rw [su h1,hb]
end
theorem qt {i:Nat} {B:DS->M Out} {I:DS->Prop}:∀(xs:List D) (δ:DS),(∀x∈xs,∀δ,I δ->∃δ',B (δ.set i (some (.d x)))=rt (.nx δ')/\I δ')->I δ->∃δ',du (ar i) B xs δ=rt (.nx δ')/\I δ'
 |[],δ,_,hI=>⟨δ,rfl,hI⟩
 |x::xs,δ,h,hI=>by
  obtain ⟨δ1,e1,h1⟩:=h x JZ δ hI
  obtain ⟨δ2,e2,h2⟩:=qt xs δ1 (fun y hy=>h y (JY _ hy)) h1
  refine ⟨δ2,?_,h2⟩
  unfold du
  have hs:ar i x δ=some (δ.set i (some (.d x))):=rfl
  rw [hs,aR,aE,e1,aE,lq]
  exact e2
theorem jw {fi:DS->M (List D)} {sf:D->DS->Option DS} {B:DS->M Out} {δ:DS} {xs:List D} {r:M Out} (h:fi δ=rt xs) (h2:du sf B xs δ=r):dZ fi sf B δ=r:=by
 unfold dZ
 rw [h,aE,h2]
theorem JK {C CB:Addr} {fa fb:DS->M DV} {δ:DS} {m c:Int} (h1:fa δ=rt (.d (.int m))) (h2:fb δ=rt (.d (.int c))) (h3:3<=m) (h13:m<=13) (h4:1<=c) (h5:c<=4):FH C CB (aa fa (aa fb aj)) δ=rt (hs C m c):=by
 unfold FH
 rw [cj (bH h1 h2)]
 show (if good m c=true then _ else _)=_
 rw [if_pos (by unfold good; simp; lia)]
 rfl
section
variable {F G:DS->M Out} {B:DS->M Out} {f fe:DS->M DV} {fi:DS->M (List D)} {gc:DS->M Bool} {δ:DS} {r:M Out} {i k:Nat} {js:List Nat}
end
section
variable {F G:DS->M Out} {f fa fb fc fd fe:DS->M DV} {fr:DS->M (List DV)} {fi:DS->M (List D)} {gc:DS->M Bool} {δ:DS} {Q:DS->Prop} {r:M Out} {i:Nat} {x y z u:DV} {b:Bool}
theorem JP (h1:fa δ=rt x) (h2:fb δ=rt y) (h3:fc δ=rt z) (h4:fd δ=rt u):aa fa (aa fb (aa fc (aa fd aj))) δ=rt [x,y,z,u]:=by
 have:=dG h2 h3 h4
 unfold aa at this ⊢
 rw [h1,aE,this]; rfl
theorem JR {v:DV} (h1:fa δ=rt x) (h2:fb δ=rt y) (h3:fc δ=rt z) (h4:fd δ=rt u) (h5:fe δ=rt v):aa fa (aa fb (aa fc (aa fd (aa fe aj)))) δ=rt [x,y,z,u,v]:=by
 have:=JP h2 h3 h4 h5
 unfold aa at this ⊢
 rw [h1,aE,this]; rfl
end
theorem xo (fs:List (Int×Int)) (p z:Int×Int):iK (fs++[p]) z=iK fs z+(if p=z then 1 else 0):=by
 unfold iK
 rw [List.map_append,List.countP_append]
 simp only [List.map_cons,List.map_nil,List.countP_cons,List.countP_nil,lz]
 by_cases h:p=z <;> simp [h]
theorem xa (T:Option DV) (lim:Int) (fs:List (Int×Int)) (p:Int×Int) (hl:fs.length<=1000) :
  ∃fs':List (Int×Int),tB [T,some (.d (.int lim)),some (.own (fs.map pr)),some (.d (pr p))]=rt (.nx [T,some (.d (.int lim)),some (.own (fs'.map pr)),some (.d (pr p))])/\((fs'=fs)\/(fs'=fs++[p]/\iK fs p<2/\(fs.length:Int)<lim)):=by
 have c1:iO (af 2) (af 3) [T,some (.d (.int lim)),some (.own (fs.map pr)),some (.d (pr p))]=rt (.d (.int (iK fs p))):=(wI rfl rfl rfl).trans (BD fs p)
 have c2:aL dF (aa (af 2) aj) [T,some (.d (.int lim)),some (.own (fs.map pr)),some (.d (pr p))]=rt (.d (.int (fs.length:Int))):=(cj (bh rfl)).trans (lM fs)
 have t1:(jo (fun δ=>bd (e2 fJ (iO (af 2) (af 3)) (eC (.int 2)) δ) bI) (fun δ=>bd (e2 fJ (aL dF (aa (af 2) aj)) (af 1) δ) bI)) [T,some (.d (.int lim)),some (.own (fs.map pr)),some (.d (pr p))]=rt (decide (iK fs p<2)&&decide ((fs.length:Int)<lim)):=by
  exact F2 (a8 ((au (y:=.d (.int 2)) c1 rfl).trans (dw _ _))) (a8 ((au (y:=.d (.int lim)) c2 rfl).trans (dw _ _)))
 unfold tB
 rw [iB t1]
 by_cases h:(decide (iK fs p<2)&&decide ((fs.length:Int)<lim))=true
 ·rw [if_pos h]
  refine ⟨fs++[p],?_,.inr ⟨rfl,?_⟩⟩
  ·rw [vS (xs:=fs.map pr) (x:=.d (pr p)) (d:=pr p) rfl rfl rfl (by rw [List.length_map]; lia)]
   rw [List.map_append]
   rfl
  ·rw [Bool.and_eq_true] at h
   exact ⟨of_decide_eq_true h.1,of_decide_eq_true h.2⟩
 ·rw [if_neg h]
  exact ⟨fs,rfl,.inl rfl⟩
theorem pN (P:Int×Int->Prop) (T:Option DV) (lim:Int) (h1:0<=lim) (h2:lim<=900):∀(qs fs:List (Int×Int)) (x:Option DV),(fs.length:Int)<=lim->(∀p∈fs,P p)->(∀p∈qs,P p)->(∀p,iK fs p<=2) ->
  ∃(fs':List (Int×Int)) (x':Option DV),du (ar 3) tB (qs.map pr) [T,some (.d (.int lim)),some (.own (fs.map pr)),x]=rt (.nx [T,some (.d (.int lim)),some (.own (fs'.map pr)),x'])/\(fs'.length:Int)<=lim/\(∀p∈fs',P p)/\(∀p,iK fs' p<=2)
 |[],fs,x,hf,hP,_,hC=>⟨fs,x,rfl,hf,hP,hC⟩
 |p::qs,fs,x,hf,hP,hQ,hC=>by
  obtain ⟨fs1,e1,h⟩:=xa T lim fs p 0x1
  have hf1:(fs1.length:Int)<=lim:=by
   rcases h with h|⟨h,_,h'⟩
   ·rw [h]; exact hf
   ·rw [h,List.length_append,List.length_singleton]; lia
  have hP1:∀p∈fs1,P p:=by
   rcases h with h|⟨h,_,h'⟩
   ·rw [h]; exact hP
   ·rw [h]
    intro z hz
    rcases List.mem_append.mp hz with hz|hz
    ·exact hP z hz
    ·rw [List.mem_singleton.mp hz]; exact hQ p JZ
  have hC1:∀p,iK fs1 p<=2:=by
   rcases h with h|⟨h,hc,h'⟩
   ·rw [h]; exact hC
   ·rw [h]
    intro z
    rw [xo]
    split
    ·rename_i hz; rw [<-hz]; lia
    ·have:=hC z; lia
  obtain ⟨fs2,x2,e2,hf2⟩:=pN P T lim h1 h2 qs fs1 (some (.d (pr p))) hf1 hP1 (fun z hz=>hQ z (JY _ hz)) hC1
  refine ⟨fs2,x2,?_,hf2⟩
  rw [List.map_cons]
  unfold du
  have hs:ar 3 (pr p) [T,some (.d (.int lim)),some (.own (fs.map pr)),x]=some [T,some (.d (.int lim)),some (.own (fs.map pr)),some (.d (pr p))]:=rfl
  rw [hs,aR,aE,e1,aE,lq]
  exact e2
theorem Ek (P:Int×Int->Prop) (ps:List (Int×Int)) (hps:∀p∈ps,P p) (lim:Int) (h1:0<=lim) (h2:lim<=12):∃qs:List (Int×Int),cb [.d (.list (ps.map pr)),.d (.int lim)]=rt (.new (qs.map pr))/\(qs.length:Int)<=lim/\(∀p∈qs,P p)/\(∀p,iK qs p<=2)/\ia qs=true:=by
 obtain ⟨fs,x,e,hf,hP,hC⟩:=pN P (some (.d (.list (ps.map pr)))) lim h1 0x1 ps [] none (by simpa using h1) 0x4 hps (fun p=>by show (0:Int)<=2; decide)
 obtain ⟨qs,hq,hl⟩:=xY fs
 have hperm:(qs.map pr).Perm (fs.map pr):=by rw [<-hq]; exact gQ _
 refine ⟨qs,?_,0x1,fun p hp=>?_,fun p=>?_,?_⟩
 rotate_left
 ·obtain ⟨z,hz,e⟩:=List.mem_map.mp (hperm.mem_iff.mp (List.mem_map_of_mem hp))
  rw [<-GX e]; exact hP z hz
 ·have:iK qs p=iK fs p:=by unfold iK; rw [hperm.countP_eq]
  rw [this]; exact hC p
 ·exact ya (by rw [<-hq]; exact oa _)
 unfold cb jW eG
 have s1:aW 2 (cC aj) [some (.d (.list (ps.map pr))),some (.d (.int lim)),none,none]=rt (.nx [some (.d (.list (ps.map pr))),some (.d (.int lim)),some (.own []),none]):=rfl
 have s2:dZ (kG (af 0)) (ar 3) tB [some (.d (.list (ps.map pr))),some (.d (.int lim)),some (.own []),none]=rt (.nx [some (.d (.list (ps.map pr))),some (.d (.int lim)),some (.own (fs.map pr)),x]):=by
  unfold dZ
  rw [gd (xs:=ps.map pr) rfl,aE]
  exact e
 have s3:aZ (aL kY (aa (af 2) aj)) [some (.d (.list (ps.map pr))),some (.d (.int lim)),some (.own (fs.map pr)),x]=rt (.rt (.new (qs.map pr))):=by
  refine bC ((cj (bh (x:=.own (fs.map pr)) rfl)).trans ?_)
  rw [yC (ps:=fs) rfl 0x1,hq]
 have hd:nc ["tiles", "limit", "found", "tile"] [.d (.list (ps.map pr)),.d (.int lim)]=[some (.d (.list (ps.map pr))),some (.d (.int lim)),none,none]:=rfl
 rw [hd,show (fQ (jo (fun δ=>bd (e2 fJ (iO (af 2) (af 3)) (eC (.int 2)) δ) bI) (fun δ=>bd (e2 fJ (aL dF (aa (af 2) aj)) (af 1) δ) bI)) (kr 2 (af 3)) bP)=tB from rfl]
 rw [cF s1,cF s2,s3]
 rfl
section
variable (K:Kd) (ns:List Int) (m c st lim:Int)
theorem ze (δ:DS) (num hi col:Int) (h0:0<=num) (h1:num<=20) (h2:hi<=20) (h3:-5<=hi) (hd:δ[9]?=some (some (.d (.int col)))) {fi:DS->M (List DV)} (hf:fi δ=rt [.d (.int num),.d (.int hi)]) :
  ∃qs:List (Int×Int),bb 1 [9] (qI fi) (ar 0) bY (bf (aa (af 0) (aa (af 1) aj))) δ=rt (.new (qs.map pr))/\qs.length<=20/\(∀p∈qs,p.2=col/\num<=p.1/\p.1<hi):=by
 refine ⟨(List.range (hi-num).toNat).map fun (k:Nat)=>(num+(k:Int),col),?_,by simp; lia,fun p hp=>?_⟩
 rotate_left
 ·obtain ⟨k,hk,rfl⟩:=List.mem_map.mp hp
  have:=List.mem_range.mp hk
  exact ⟨rfl,by show num<=num+(k:Int); lia,by show num+(k:Int)<hi; lia⟩
 refine bp (jI hf 0x1 0x1 0x1 0x1) (by rw [eZ]; lia) ?_
 unfold df cT
 rw [List.map_map]
 refine dq fun k hk=>?_
 have e:([9].map fun j=>(δ[j]?).join)=[some (.d (.int col))]:=by
  simp only [List.map_cons,List.map_nil,hd,Option.join_some]
 rw [e]
 exact jH rfl rfl
theorem yU (δ:DS) (num cell:Int) (h1:c<=10) (h0:0<=c) (hd8:δ[8]?=some (some (.d (.int num)))) (hd7:δ[7]?=some (some (.d (.int cell)))) {fi:DS->M (List DV)} (hf:fi δ=rt [.d (.int c)]) :
  ∃qs:List (Int×Int),bb 1 [8,7] (qW fi) (ar 0) (fun δ=>bd (e2 Cd (aL (ax 3 (aw)) (aa (af 2) (aa (e2 aY (eC (.int 10)) (af 0)) (aa (eC (.int 4)) aj)))) (eC (.int 0)) δ) bI) (bf (aa (af 1) (aa (af 0) aj))) δ=rt (.new (qs.map pr))/\qs.length<=20/\(∀p∈qs,p.1=num/\0<=p.2/\p.2<c):=by
 have hmix:∀k:Int,∃r,aw [.d (.int cell),.d (.int k),.d (.int 4)]=rt (.d (.int r)):=fun k=>let ⟨r,h,_⟩:=vf cell k 4 0x3; ⟨r,h⟩
 let mx:Int->Int:=fun k=>(hmix k).choose
 have hmx:∀k,aw [.d (.int cell),.d (.int k),.d (.int 4)]=rt (.d (.int (mx k))):=fun k=>(hmix k).choose_spec
 refine ⟨((List.range c.toNat).filter fun (k:Nat)=>decide (0<mx (10+(0+(k:Int))))).map fun (k:Nat)=>(num,0+(k:Int)),?_,?_,fun p hp=>?_⟩
 ·refine bp (jK hf 0x1 0x1) (by rw [eZ]; lia) ?_
  unfold df cT
  have e:([8,7].map fun j=>(δ[j]?).join)=[some (.d (.int num)),some (.d (.int cell))]:=by
   simp only [List.map_cons,List.map_nil,hd8,hd7,Option.join_some]
  rw [e,List.map_map]
  refine fG fun k hk=>⟨?_,jH rfl rfl⟩
  exact a8 ((au (y:=.d (.int 0)) (bB (dG (y:=.d (.int (10+(0+(k:Int))))) rfl ((au (x:=.d (.int 10)) (y:=.d (.int (0+(k:Int)))) rfl rfl).trans (cN _ _)) rfl) rfl rfl (hmx (10+(0+(k:Int))))) rfl).trans (lO _ _))
 ·rw [List.length_map]
  have:=List.length_filter_le (fun (k:Nat)=>decide (0<mx (10+(0+(k:Int))))) (List.range c.toNat)
  rw [List.length_range] at this
  lia
 ·obtain ⟨k,hk,rfl⟩:=List.mem_map.mp hp
  have:=List.mem_range.mp (List.mem_filter.mp hk).1
  exact ⟨rfl,by show (0:Int)<=0+(k:Int); lia,by show 0+(k:Int)<c; lia⟩
variable {m c}
theorem yI (hm:1<=m) (hm':m<=13) (hc:1<=c) (hc':c<=4) (k cell num col size:Int) (hcol:0<=col) (hcol':col<c) (hn:1<=num) (hn':num<=m) (hs:2<=size) (hs':size<=5) (ts:List (Int×Int)) (hl:ts.length<=500) (hP:∀p∈ts,aX m c p=true) :
  ∃ts':List (Int×Int),fQ (fun δ=>bd (e2 (g7 false) (aL (ax 3 (aw)) (aa (af 7) (aa (eC (.int 4)) (aa (eC (.int 2)) aj)))) (eC (.int 0)) δ) bI) (aW 5 (e2 aY (af 5) (bb 1 [9] (qI (aa (af 8) (aa (e2 aY (aL sL (aa (af 2) (aa (e2 L3.gSub (e2 aY (af 8) (af 10)) (eC (.int 1))) aj))) (eC (.int 1))) aj))) (ar 0) bY (bf (aa (af 0) (aa (af 1) aj)))))) (aW 5 (e2 aY (af 5) (bb 1 [8,7] (qW (aa (af 3) aj)) (ar 0) (fun δ=>bd (e2 Cd (aL (ax 3 (aw)) (aa (af 2) (aa (e2 aY (eC (.int 10)) (af 0)) (aa (eC (.int 4)) aj)))) (eC (.int 0)) δ) bI) (bf (aa (af 1) (aa (af 0) aj))))))
   (hδ K ns m c st lim ts (some (.d (.int k))) (some (.d (.int cell))) (some (.d (.int num))) (some (.d (.int col))) (some (.d (.int size))))=rt (.nx (hδ K ns m c st lim ts' (some (.d (.int k))) (some (.d (.int cell))) (some (.d (.int num))) (some (.d (.int col))) (some (.d (.int size)))))/\ts'.length<=ts.length+20/\(∀p∈ts',aX m c p=true):=by
 obtain ⟨r,hr,_⟩:=tq (δ:=hδ K ns m c st lim ts (some (.d (.int k))) (some (.d (.int cell))) (some (.d (.int num))) (some (.d (.int col))) (some (.d (.int size)))) (fa:=af 7) (fb:=eC (.int 4)) (fc:=eC (.int 2)) (cell:=cell) (k:=4) (many:=2) rfl rfl rfl 0x3
 rw [iB (a8 ((au (y:=.d (.int 0)) hr rfl).trans (i8 _ _)))]
 have fin:∀(qs:List (Int×Int)) (f:DS->M DV),f (hδ K ns m c st lim ts (some (.d (.int k))) (some (.d (.int cell))) (some (.d (.int num))) (some (.d (.int col))) (some (.d (.int size))))=rt (.new (qs.map pr))->qs.length<=20 ->
   aW 5 (e2 aY (af 5) f) (hδ K ns m c st lim ts (some (.d (.int k))) (some (.d (.int cell))) (some (.d (.int num))) (some (.d (.int col))) (some (.d (.int size))))=rt (.nx (hδ K ns m c st lim (ts++qs) (some (.d (.int k))) (some (.d (.int cell))) (some (.d (.int num))) (some (.d (.int col))) (some (.d (.int size))))):=fun qs f h hq=>by
  rw [lu (x:=.new (ts.map pr++qs.map pr)) (y:=.own (ts.map pr++qs.map pr)) ((au (x:=.own (ts.map pr)) (y:=.new (qs.map pr)) rfl h).trans (Bd (xs:=ts.map pr) (ys:=qs.map pr) rfl rfl rfl (by simp; lia))) rfl]
  unfold hδ
  rw [List.map_append]
  rfl
 by_cases h:(r==0)=true
 ·rw [if_pos h]
  obtain ⟨qs,hq,hql,hqP⟩:=ze (hδ K ns m c st lim ts (some (.d (.int k))) (some (.d (.int cell))) (some (.d (.int num))) (some (.d (.int col))) (some (.d (.int size)))) num ((if num+size-1<m then num+size-1 else m)+1) col 0x1 0x1 (by split <;> lia) (by split <;> lia) rfl
   (fi:=aa (af 8) (aa (e2 aY (aL sL (aa (af 2) (aa (e2 L3.gSub (e2 aY (af 8) (af 10)) (eC (.int 1))) aj))) (eC (.int 1))) aj)) (bH rfl (au (x:=.d (.int (if num+size-1<m then num+size-1 else m))) (y:=.d (.int 1)) (cj (bH (x:=.d (.int m)) (y:=.d (.int (num+size-1))) rfl (au (x:=.d (.int (num+size))) (y:=.d (.int 1)) (au (x:=.d (.int num)) (y:=.d (.int size)) rfl rfl) rfl))) rfl))
  refine ⟨ts++qs,fin qs _ hq hql,by simp; lia,fun p hp=>?_⟩
  rcases List.mem_append.mp hp with hp|hp
  ·exact hP p hp
  ·obtain ⟨e1,e2,e3⟩:=hqP p hp
   have hmin:(if num+size-1<m then num+size-1 else m)<=m:=by split <;> lia
   unfold aX; simp; lia
 ·rw [if_neg h]
  obtain ⟨qs,hq,hql,hqP⟩:=yU c (hδ K ns m c st lim ts (some (.d (.int k))) (some (.d (.int cell))) (some (.d (.int num))) (some (.d (.int col))) (some (.d (.int size)))) num cell 0x1 0x1 rfl rfl (fi:=aa (af 3) aj) (bh rfl)
  refine ⟨ts++qs,fin qs _ hq hql,by simp; lia,fun p hp=>?_⟩
  rcases List.mem_append.mp hp with hp|hp
  ·exact hP p hp
  ·obtain ⟨e1,e2,e3⟩:=hqP p hp
   unfold aX; simp; lia
theorem zj (hm:1<=m) (hm':m<=13) (hc:1<=c) (hc':c<=4) (k cell:Int) (y8 y9 y10:Option DV) (ts:List (Int×Int)) (hl:ts.length<=900) (hP:∀p∈ts,aX m c p=true) :
  ∃ts':List (Int×Int),fQ (fun δ=>bd (e2 (g7 false) (aL (ax 3 (aw)) (aa (af 7) (aa (eC (.int 5)) (aa (eC (.int 3)) aj)))) (eC (.int 0)) δ) bI) (kr 5 (bf (aa (e2 aY (eC (.int 1)) (aL (ax 3 (aw)) (aa (af 7) (aa (eC (.int 6)) (aa (af 2) aj))))) (aa (aL (ax 3 (aw)) (aa (af 7) (aa (eC (.int 7)) (aa (af 3) aj)))) aj)))) bP
   (hδ K ns m c st lim ts (some (.d (.int k))) (some (.d (.int cell))) y8 y9 y10)=rt (.nx (hδ K ns m c st lim ts' (some (.d (.int k))) (some (.d (.int cell))) y8 y9 y10))/\ts'.length<=ts.length+1/\(∀p∈ts',aX m c p=true):=by
 obtain ⟨r,hr,_⟩:=tq (δ:=hδ K ns m c st lim ts (some (.d (.int k))) (some (.d (.int cell))) y8 y9 y10) (fa:=af 7) (fb:=eC (.int 5)) (fc:=eC (.int 3)) (cell:=cell) (k:=5) (many:=3) rfl rfl rfl 0x3
 obtain ⟨r6,h6,a6,b6⟩:=tq (δ:=hδ K ns m c st lim ts (some (.d (.int k))) (some (.d (.int cell))) y8 y9 y10) (fa:=af 7) (fb:=eC (.int 6)) (fc:=af 2) (cell:=cell) (k:=6) (many:=m) rfl rfl rfl 0x1
 obtain ⟨r7,h7,a7,b7⟩:=tq (δ:=hδ K ns m c st lim ts (some (.d (.int k))) (some (.d (.int cell))) y8 y9 y10) (fa:=af 7) (fb:=eC (.int 7)) (fc:=af 3) (cell:=cell) (k:=7) (many:=c) rfl rfl rfl 0x1
 rw [iB (a8 ((au (y:=.d (.int 0)) hr rfl).trans (i8 _ _)))]
 by_cases h:(r==0)=true
 ·rw [if_pos h]
  refine ⟨ts++[(1+r6,r7)],?_,0x4,fun p hp=>?_⟩
  rotate_left
  ·rcases List.mem_append.mp hp with hp|hp
   ·exact hP p hp
   ·rw [List.mem_singleton.mp hp]
    unfold aX; simp; lia
  rw [vS (xs:=ts.map pr) (x:=.d (pr (1+r6,r7))) (d:=pr (1+r6,r7)) rfl (jH ((au (x:=.d (.int 1)) (y:=.d (.int r6)) rfl h6).trans (cN _ _)) h7) rfl (by rw [List.length_map]; lia)]
  unfold hδ
  rw [List.map_append]
  rfl
 ·rw [if_neg h]
  exact ⟨ts,rfl,0x1,hP⟩
theorem vL (hm:1<=m) (hm':m<=13) (hc:1<=c) (hc':c<=4) (k:Int) (hk:0<=k) (h0:0<=st) (ts:List (Int×Int)) (hl:ts.length<=500) (hP:∀p∈ts,aX m c p=true) (x7 x8 x9 x10:Option DV) :
  ∃(ts':List (Int×Int)) (y7 y8 y9 y10:Option DV),hB K (hδ K ns m c st lim ts (some (.d (.int k))) x7 x8 x9 x10)=rt (.nx (hδ K ns m c st lim ts' (some (.d (.int k))) y7 y8 y9 y10))/\ts'.length<=ts.length+21/\(∀p∈ts',aX m c p=true):=by
 have s7:aW 7 (aL (ax 2 (aF K)) (aa (af 0) (aa (e2 aY (af 1) (af 6)) aj))) (hδ K ns m c st lim ts (some (.d (.int k))) x7 x8 x9 x10)=rt (.nx (hδ K ns m c st lim ts (some (.d (.int k))) (some (.d (.int (cp ns (st+k))))) x8 x9 x10)):=
  lu (y:=.d (.int (cp ns (st+k)))) (va rfl ((au (x:=.d (.int st)) (y:=.d (.int k)) rfl rfl).trans (cN _ _)) 0x1) rfl
 generalize cp ns (st+k)=cell at s7
 obtain ⟨r1,h1,a1,b1⟩:=tq (δ:=hδ K ns m c st lim ts (some (.d (.int k))) (some (.d (.int cell))) x8 x9 x10) (fa:=af 7) (fb:=eC (.int 1)) (fc:=af 2) (cell:=cell) (k:=1) (many:=m) rfl rfl rfl 0x1
 obtain ⟨r2,h2,a2,b2⟩:=tq (δ:=hδ K ns m c st lim ts (some (.d (.int k))) (some (.d (.int cell))) x8 x9 x10) (fa:=af 7) (fb:=eC (.int 2)) (fc:=af 3) (cell:=cell) (k:=2) (many:=c) rfl rfl rfl 0x1
 have s89:Cn (kn 2 (cm (ar 8) (cm (ar 9) kM))) (bf (aa (e2 aY (eC (.int 1)) (aL (ax 3 (aw)) (aa (af 7) (aa (eC (.int 1)) (aa (af 2) aj))))) (aa (aL (ax 3 (aw)) (aa (af 7) (aa (eC (.int 2)) (aa (af 3) aj)))) aj)))
   (hδ K ns m c st lim ts (some (.d (.int k))) (some (.d (.int cell))) x8 x9 x10)=rt (.nx (hδ K ns m c st lim ts (some (.d (.int k))) (some (.d (.int cell))) (some (.d (.int (1+r1)))) (some (.d (.int r2))) x10)):=
  EU (jH ((au (x:=.d (.int 1)) (y:=.d (.int r1)) rfl h1).trans (cN _ _)) h2) rfl rfl
 obtain ⟨r3,h3,a3,b3⟩:=tq (δ:=hδ K ns m c st lim ts (some (.d (.int k))) (some (.d (.int cell))) (some (.d (.int (1+r1)))) (some (.d (.int r2))) x10) (fa:=af 7) (fb:=eC (.int 3)) (fc:=eC (.int 4)) (cell:=cell) (k:=3) (many:=4) rfl rfl rfl 0x3
 have s10:aW 10 (e2 aY (eC (.int 2)) (aL (ax 3 (aw)) (aa (af 7) (aa (eC (.int 3)) (aa (eC (.int 4)) aj))))) (hδ K ns m c st lim ts (some (.d (.int k))) (some (.d (.int cell))) (some (.d (.int (1+r1)))) (some (.d (.int r2))) x10)=rt (.nx (hδ K ns m c st lim ts (some (.d (.int k))) (some (.d (.int cell))) (some (.d (.int (1+r1)))) (some (.d (.int r2))) (some (.d (.int (2+r3)))))):=
  lu (y:=.d (.int (2+r3))) ((au (x:=.d (.int 2)) (y:=.d (.int r3)) rfl h3).trans (cN _ _)) rfl
 obtain ⟨ts1,s11,l1,P1⟩:=yI K ns st lim hm hm' hc hc' k cell (1+r1) r2 (2+r3) a2 b2 0x1 0x1 0x1 0x1 ts hl hP
 obtain ⟨ts2,s12,l2,P2⟩:=zj K ns st lim hm hm' hc hc' k cell (some (.d (.int (1+r1)))) (some (.d (.int r2))) (some (.d (.int (2+r3)))) ts1 0x1 P1
 refine ⟨ts2,some (.d (.int cell)),some (.d (.int (1+r1))),some (.d (.int r2)),some (.d (.int (2+r3))),?_,0x1,P2⟩
 unfold hB
 rw [cF s7,cF s89,cF s10,cF s11]
 exact s12
theorem pL (hm:1<=m) (hm':m<=13) (hc:1<=c) (hc':c<=4) (hst:0<=st):∀(ks:List Int) (ts:List (Int×Int)) (x6 x7 x8 x9 x10:Option DV),(∀k∈ks,0<=k)->ts.length+21*ks.length<=500->(∀p∈ts,aX m c p=true) ->
  ∃(ts':List (Int×Int)) (y6 y7 y8 y9 y10:Option DV),du (ar 6) (hB K) (ks.map PyData.int) (hδ K ns m c st lim ts x6 x7 x8 x9 x10)=rt (.nx (hδ K ns m c st lim ts' y6 y7 y8 y9 y10))/\ts'.length<=500/\(∀p∈ts',aX m c p=true)
 |[],ts,x6,x7,x8,x9,x10,_,hl,hP=>⟨ts,x6,x7,x8,x9,x10,rfl,by simpa using hl,hP⟩
 |k::ks,ts,x6,x7,x8,x9,x10,h0,hl,hP=>by
  rw [List.length_cons] at hl
  obtain ⟨ts1,y7,y8,y9,y10,e1,l1,P1⟩:=vL K ns st lim hm hm' hc hc' k (h0 k JZ) hst ts 0x1 hP x7 x8 x9 x10
  obtain ⟨ts2,z6,z7,z8,z9,z10,e2,l2⟩:=pL hm hm' hc hc' hst ks ts1 (some (.d (.int k))) y7 y8 y9 y10 (fun k' h=>h0 k' (JY _ h)) 0x1 P1
  refine ⟨ts2,z6,z7,z8,z9,z10,?_,l2⟩
  rw [List.map_cons]
  unfold du
  have hs:ar 6 (.int k) (hδ K ns m c st lim ts x6 x7 x8 x9 x10)=some (hδ K ns m c st lim ts (some (.d (.int k))) x7 x8 x9 x10):=rfl
  rw [hs,aR,aE,e1,aE,lq]
  exact e2
end
theorem yW (K:Kd) (ns:List Int) (m c st lim:Int) (h0:0<=st) (h1:1<=lim) (h12:lim<=12) (ts:List (Int×Int)) (hP:∀p∈ts,aX m c p=true) (y6 y7 y8 y9 y10:Option DV) :
  ∃qs:List (Int×Int),(fun δ=>(aZ (aL (ax 2 (cb)) (aa (af 5) (aa (e2 aY (eC (.int 1)) (e2 jT (aL (ax 2 (aF K)) (aa (af 0) (aa (e2 aY (af 1) (eC (.int 3))) aj))) (af 4))) aj)))) (frz 5 δ)) (hδ K ns m c st lim ts y6 y7 y8 y9 y10)=rt (.rt (.new (qs.map pr)))/\(qs.length:Int)<=lim/\(∀p∈qs,aX m c p=true)/\(∀p,iK qs p<=2)/\ia qs=true:=by
 have b0:=Int.emod_nonneg (cp ns (st+3)) (show lim≠0 by lia)
 have b1:=Int.emod_lt_of_pos (cp ns (st+3)) (show 0<lim by lia)
 obtain ⟨qs,hq,hl⟩:=Ek (fun p=>aX m c p=true) ts hP (1+cp ns (st+3) % lim) 0x1 0x1
 refine ⟨qs,?_,0x1,hl.2⟩
 have hf:frz 5 (hδ K ns m c st lim ts y6 y7 y8 y9 y10)=[some (.scr K ns),some (.d (.int st)),some (.d (.int m)),some (.d (.int c)),some (.d (.int lim)),some (.d (.list (ts.map pr))),y6,y7,y8,y9,y10]:=rfl
 show aZ _ (frz 5 _)=_
 rw [hf]
 refine bC (bB (bH (x:=.d (.list (ts.map pr))) (y:=.d (.int (1+cp ns (st+3) % lim))) rfl ?_) rfl rfl hq)
 refine (au (x:=.d (.int 1)) (y:=.d (.int (cp ns (st+3) % lim))) rfl ?_).trans (cN _ _)
 exact (au (x:=.d (.int (cp ns (st+3)))) (y:=.d (.int lim)) (va rfl ((au (x:=.d (.int st)) (y:=.d (.int 3)) rfl rfl).trans (cN _ _)) 0x1) rfl).trans (eR 0x1)
theorem wH (K:Kd) (ns:List Int) (m c st lim:Int) (h0:0<=st) (h1:1<=lim) (h12:lim<=12) (hm:1<=m) (hm':m<=13) (hc:1<=c) (hc':c<=4) :
  ∃qs:List (Int×Int),dA K [.scr K ns,.d (.int st),.d (.int m),.d (.int c),.d (.int lim)]=rt (.new (qs.map pr))/\(qs.length:Int)<=lim/\(∀p∈qs,aX m c p=true)/\(∀p,iK qs p<=2)/\ia qs=true:=by
 obtain ⟨ts,y6,y7,y8,y9,y10,hlp,htl,hP⟩:=pL K ns st lim hm hm' hc hc' h0 [0,1,2] [] none none none none none 0x3 0x3 0x4
 have s1:aW 5 (cC aj) [some (.scr K ns),some (.d (.int st)),some (.d (.int m)),some (.d (.int c)),some (.d (.int lim)),none,none,none,none,none,none]=rt (.nx (hδ K ns m c st lim [] none none none none none)):=rfl
 have s2:dZ (qW (aa (eC (.int 3)) aj)) (ar 6) (hB K) (hδ K ns m c st lim [] none none none none none)=rt (.nx (hδ K ns m c st lim ts y6 y7 y8 y9 y10)):=by
  unfold dZ
  rw [jK (j:=3) (bh rfl) 0x3 0x3,aE]
  exact hlp
 have hlen:aL dF (aa (af 5) aj) (hδ K ns m c st lim ts y6 y7 y8 y9 y10)=rt (.d (.int (ts.length:Int))):=(cj (bh (x:=.own (ts.map pr)) rfl)).trans (lM ts)
 have s3:∃ts':List (Int×Int),fQ (fun δ=>bd (e2 (g7 false) (aL dF (aa (af 5) aj)) (eC (.int 0)) δ) bI) (aW 5 (cC (aa (bf (aa (eC (.int 1)) (aa (eC (.int 0)) aj))) aj))) bP (hδ K ns m c st lim ts y6 y7 y8 y9 y10)=rt (.nx (hδ K ns m c st lim ts' y6 y7 y8 y9 y10))/\(∀p∈ts',aX m c p=true):=by
  rw [iB (a8 ((au (y:=.d (.int 0)) hlen rfl).trans (i8 _ _)))]
  by_cases h:(((ts.length:Int))==0)=true
  ·rw [if_pos h]
   exact ⟨[(1,0)],rfl,fun p hp=>by rw [List.mem_singleton.mp hp]; unfold aX; simp; lia⟩
  ·rw [if_neg h]
   exact ⟨ts,rfl,hP⟩
 obtain ⟨ts',s3,hP'⟩:=s3
 have hcell:e2 jT (aL (ax 2 (aF K)) (aa (af 0) (aa (e2 aY (af 1) (eC (.int 3))) aj))) (eC (.int 9)) (hδ K ns m c st lim ts' y6 y7 y8 y9 y10)=rt (.d (.int (cp ns (st+3) % 9))):=
  (au (x:=.d (.int (cp ns (st+3)))) (y:=.d (.int 9)) (va rfl ((au (x:=.d (.int st)) (y:=.d (.int 3)) rfl rfl).trans (cN _ _)) 0x1) rfl).trans (eR 0x3)
 have hif:fQ (fun δ=>bd (e2 (g7 false) (e2 jT (aL (ax 2 (aF K)) (aa (af 0) (aa (e2 aY (af 1) (eC (.int 3))) aj))) (eC (.int 9))) (eC (.int 7)) δ) bI) (aZ (cC aj)) bP (hδ K ns m c st lim ts' y6 y7 y8 y9 y10)=if (cp ns (st+3) % 9==7)=true then aZ (cC aj) (hδ K ns m c st lim ts' y6 y7 y8 y9 y10) else bP (hδ K ns m c st lim ts' y6 y7 y8 y9 y10):=
  iB (a8 ((au (y:=.d (.int 7)) (fb:=eC (.int 7)) hcell rfl).trans (i8 _ _)))
 obtain ⟨qs,he,hl⟩:=yW K ns m c st lim h0 h1 h12 ts' hP' y6 y7 y8 y9 y10
 unfold dA eG
 have hd:nc ["script", "start", "most", "colours", "limit", "tiles", "k", "cell", "number", "colour", "size"] [.scr K ns,.d (.int st),.d (.int m),.d (.int c),.d (.int lim)]=[some (.scr K ns),some (.d (.int st)),some (.d (.int m)),some (.d (.int c)),some (.d (.int lim)),none,none,none,none,none,none]:=rfl
 rw [hd]
 have hF:jr K=bE (aW 5 (cC aj)) (bE (dZ (qW (aa (eC (.int 3)) aj)) (ar 6) (hB K)) (bE (fQ (fun δ=>bd (e2 (g7 false) (aL dF (aa (af 5) aj)) (eC (.int 0)) δ) bI) (aW 5 (cC (aa (bf (aa (eC (.int 1)) (aa (eC (.int 0)) aj))) aj))) bP) (bE (fQ (fun δ=>bd (e2 (g7 false) (e2 jT (aL (ax 2 (aF K)) (aa (af 0) (aa (e2 aY (af 1) (eC (.int 3))) aj))) (eC (.int 9))) (eC (.int 7)) δ) bI) (aZ (cC aj)) bP) (fun δ=>(aZ (aL (ax 2 (cb)) (aa (af 5) (aa (e2 aY (eC (.int 1)) (e2 jT (aL (ax 2 (aF K)) (aa (af 0) (aa (e2 aY (af 1) (eC (.int 3))) aj))) (af 4))) aj)))) (frz 5 δ))))):=rfl
 rw [hF,cF s1,cF s2,cF s3]
 by_cases h:(cp ns (st+3) % 9==7)=true
 ·rw [if_pos h] at hif
  refine ⟨[],?_,by simp; lia,0x4,fun p=>by show (0:Int)<=2; decide,rfl⟩
  rw [qP (hif.trans (bC (x:=.new []) rfl))]
  rfl
 ·rw [if_neg h] at hif
  refine ⟨qs,?_,hl⟩
  rw [cF (hif.trans (show bP _=rt (.nx _) from rfl))]
  exact (congrArg (fun z=>bd z zk) he).trans rfl
end LW
namespace L3
open PySem PySem.Spec L2
open PyProof.Rows hiding St
noncomputable def xg:List Int->Int
 |[]=>0
 |[a]=>a
 |a::r=>min a (xg r)
theorem oZ:∀{ns:List Int} {a:Int},a∈ns->xg ns<=a
 |[b],a,h=>by simp at h; subst h; exact Int.le_refl _
 |b::c::r,a,h=>by
  show min b (xg (c::r))<=a
  rcases List.mem_cons.mp h with e|h
  ·subst e; exact Int.min_le_left _ _
  ·exact Int.le_trans (Int.min_le_right _ _) (oZ h)
theorem lD:∀{ns:List Int},ns≠[]->xg ns∈ns
 |[b],_=>JZ
 |b::c::r,_=>by
  show min b (xg (c::r))∈b::c::r
  rcases Int.le_total b (xg (c::r)) with h|h
  ·rw [Int.min_eq_left h]; exact JZ
  ·rw [Int.min_eq_right h]; exact JY _ (lD 0x4)
theorem Gy {ns:List Int} {M:Int} (h1:M∈ns) (h2:∀a,a∈ns->M<=a):M=xg ns:=
 Int.le_antisymm (h2 _ (lD (List.ne_nil_of_mem h1))) (oZ h1)
noncomputable def xG (xs:List DV):M DV:=match xs with
 |[x]=>bd (op (mj x)) fun ys=>bd (op (nH ys)) fun ns=>if ns.length>0 then rt (.d (.int (xg ns))) else none
 |_=>none
section
variable {X:Cx} {E:XK}
theorem Eu (hc:X.calm=true):dS X E (.builtin "min") xG:=fun pins s σ O P H₀ H xs vs us r Q I hd hs rx rv e q=>by
 unfold xG at e
 split at e
 ·obtain ⟨ys,e1,e2⟩:=bt e
  obtain ⟨ns,e3,e4⟩:=bt e2
  split at e4
  ·rename_i hpos
   cases e4
   cases rx with
   |cons r1 rr=>
    cases rr
    obtain ⟨a,ws,rfl,ha,l⟩:=r1.list e1
    cases rv with
    |cons q1 q2=>
     cases q2
     cases q1
     have hys:=mQ e3
     subst hys
     obtain ⟨its,ri,pl,hz⟩:=I.list (gg.of ha)
     obtain ⟨ps,hits,hns⟩:=gu l ri
     have hlist:=pl.isList
     have hl:s.heap.IsList a (intItems ps.toArray):=by
      have:its.toArray=intItems ps.toArray:=by rw [hits]; simp [intItems]
      rw [<-this]; exact hlist
     have hsz:0<ps.toArray.size:=by
      have:ps.length=ns.length:=by rw [<-hns,List.length_map]
      simp; lia
     refine min_intList (I.ok.hd hc) hl hsz fun v h' tk hv hk=>?_
     obtain ⟨t,rfl⟩:=intItems_at hv
     obtain ⟨h1,h2⟩:=argBest_lt (numAt ps.toArray) (ps.toArray.size-1)
     have hns':ns=ps.toArray.toList.map (·.1):=by rw [<-hns]
     have hM:numAt ps.toArray (argBest (fun i j=>decide (numAt ps.toArray i<numAt ps.toArray j)) (ps.toArray.size-1))=xg ns:=by
      refine Gy ?_ fun b hb=>?_
      ·rw [hns',numAt_eq]; exact getD_mem (by rw [List.length_map,Array.length_toList]; lia)
      ·rw [hns'] at hb
       obtain ⟨j,hj,rfl⟩:=mem_getD hb
       rw [List.length_map,Array.length_toList] at hj
       rw [<-numAt_eq]; exact h2 j 0x1
     rw [hM]
     exact ⟨.int _,H,I.kept (t':=tk) fun b ob eb=>hk b ob eb,⟨_,rfl⟩,q _ H (aD.refl H) (.int _)⟩
  ·cases e4
 ·cases e
end
end L3
namespace LW
open PySem PySem.Spec L2 L3
theorem mS {α:Type} {f:α->D} {i N:Nat} {B:DS->M Out} {all:List α} (I:List α->DS->Prop)
  (h:∀pre a δ,a∈all->pre.length<N->I pre δ->∃δ',B (δ.set i (some (.d (f a))))=rt (.nx δ')/\I (pre++[a]) δ') :
  ∀(as pre:List α) (δ:DS),(∀a∈as,a∈all)->pre.length+as.length<=N->I pre δ->∃δ',du (ar i) B (as.map f) δ=rt (.nx δ')/\I (pre++as) δ'
 |[],pre,δ,_,_,hI=>⟨δ,rfl,by rw [List.append_nil]; exact hI⟩
 |a::as,pre,δ,ha,hn,hI=>by
  simp only [List.length_cons] at hn
  obtain ⟨δ1,e1,h1⟩:=h pre a δ (ha a JZ) 0x1 hI
  obtain ⟨δ2,e2,h2⟩:=mS I h as (pre++[a]) δ1 (fun x hx=>ha x (JY _ hx)) (by simp; lia) h1
  refine ⟨δ2,?_,by rw [List.append_assoc] at h2; exact h2⟩
  rw [List.map_cons]
  unfold du
  have hs:ar i (f a) δ=some (δ.set i (some (.d (f a)))):=rfl
  rw [hs,aR,aE,e1,aE,lq]
  exact e2
theorem yO (n:Nat):df 0 n=(List.range n).map fun (k:Nat)=>PyData.int (k:Int):=by
 unfold df
 refine List.map_congr_left fun k _=>?_
 rw [Int.zero_add]
noncomputable def hG (m col f0:Nat):List D:=(List.range (m-2-f0)).map fun (s:Nat)=>rn (col:Int) (1+(f0:Int)) (3+(s:Int))
noncomputable def jx (m col:Nat):List D:=(List.range m).flatMap (hG m col)
noncomputable def jC (m c:Nat):List D:=(List.range c).flatMap (jx m)
theorem mD (m col f0:Nat) (h:m<=13):(hG m col f0).length<=13:=by unfold hG; simp; lia
theorem fg {α:Type} {g:α->List D} {k:Nat} (h:∀a,(g a).length<=k):∀as:List α,(as.flatMap g).length<=k*as.length
 |[]=>by simp
 |a::as=>by
  have:=h a
  have:=fg h as
  rw [List.flatMap_cons,List.length_append,List.length_cons,Nat.mul_succ]; lia
noncomputable def rF (C:Addr):DS->M Out:=(bE (aW 4 (e2 aH (e2 gSub (ft C "most" (af 0)) (af 3)) (eC (.int 1)))) (lr 1 (bb 1 [2,3] (qI (aa (eC (.int 3)) (aa (e2 aH (af 4) (eC (.int 1))) aj))) (ar 0) bY (bf (aa (eC (.str "run")) (aa (af 1) (aa (af 2) (aa (af 0) aj))))))))
noncomputable def rC (C:Addr):DS->M Out:=(dZ (qI (aa (eC (.int 1)) (aa (e2 aH (ft C "most" (af 0)) (eC (.int 1))) aj))) (ar 3) (rF C))
section
variable (C:Addr) (m c:Nat)
theorem Dv (hm:m<=13) (c':Int) (col f0:Nat) (hf:f0<m) (base:List D) (hb:base.length<=1000) (x4:Option DV) :
  rF C [some (hs C m c'),some (.own base),some (.d (.int (col:Int))),some (.d (.int (1+(f0:Int)))),x4]=rt (.nx [some (hs C m c'),some (.own (base++hG m col f0)),some (.d (.int (col:Int))),some (.d (.int (1+(f0:Int)))),some (.d (.int ((m:Int)-(1+(f0:Int))+1)))]):=by
 have fl:ft C "most" (af 0) [some (hs C m c'),some (.own base),some (.d (.int (col:Int))),some (.d (.int (1+(f0:Int)))),x4]=rt (.d (.int m)):=iF C m c'
 have s1:aW 4 (e2 aH (e2 gSub (ft C "most" (af 0)) (af 3)) (eC (.int 1))) [some (hs C m c'),some (.own base),some (.d (.int (col:Int))),some (.d (.int (1+(f0:Int)))),x4]=rt (.nx [some (hs C m c'),some (.own base),some (.d (.int (col:Int))),some (.d (.int (1+(f0:Int)))),some (.d (.int ((m:Int)-(1+(f0:Int))+1)))]):=
  lu (x:=.d (.int ((m:Int)-(1+(f0:Int))+1))) ((au ((au (y:=.d (.int (1+(f0:Int)))) fl rfl).trans (dE _ _)) rfl).trans (b9 _ _)) rfl
 unfold rF
 rw [cF s1]
 have c1:cO (ar 0) bY (bf (aa (eC (.str "run")) (aa (af 1) (aa (af 2) (aa (af 0) aj))))) (cT 1 [2,3] [some (hs C m c'),some (.own base),some (.d (.int (col:Int))),some (.d (.int (1+(f0:Int)))),some (.d (.int ((m:Int)-(1+(f0:Int))+1)))]) (df 3 ((m:Int)-(1+(f0:Int))+1+1-3).toNat)=some (hG m col f0):=by
  rw [show ((m:Int)-(1+(f0:Int))+1+1-3).toNat=m-2-f0 by lia]
  unfold df hG
  refine dq fun s hs=>?_
  exact HQ rfl rfl rfl rfl
 have e1:bb 1 [2,3] (qI (aa (eC (.int 3)) (aa (e2 aH (af 4) (eC (.int 1))) aj))) (ar 0) bY (bf (aa (eC (.str "run")) (aa (af 1) (aa (af 2) (aa (af 0) aj))))) [some (hs C m c'),some (.own base),some (.d (.int (col:Int))),some (.d (.int (1+(f0:Int)))),some (.d (.int ((m:Int)-(1+(f0:Int))+1)))]=rt (.new (hG m col f0)):=
  bp (jI (bH (x:=.d (.int 3)) rfl ((au (x:=.d (.int ((m:Int)-(1+(f0:Int))+1))) (y:=.d (.int 1)) rfl rfl).trans (b9 _ _))) 0x1 0x1 0x1 0x1) (by rw [eZ]; lia) c1
 rw [tZ (xs:=base) rfl e1 (by have:=mD m col f0 hm; lia)]
 rfl
theorem Er (hm:m<=13) (c':Int) (col:Nat) (base:List D) (hb:base.length<=700) (x3 x4:Option DV) :
  ∃y3 y4,rC C [some (hs C m c'),some (.own base),some (.d (.int (col:Int))),x3,x4]=rt (.nx [some (hs C m c'),some (.own (base++jx m col)),some (.d (.int (col:Int))),y3,y4]):=by
 have fl:e2 aH (ft C "most" (af 0)) (eC (.int 1)) [some (hs C m c'),some (.own base),some (.d (.int (col:Int))),x3,x4]=rt (.d (.int ((m:Int)+1))):=(au (iF C m c') rfl).trans (b9 _ _)
 unfold rC dZ
 rw [jI (bH (x:=.d (.int 1)) rfl fl) 0x1 0x1 0x1 0x1,aE,show ((m:Int)+1-1).toNat=m by lia]
 unfold df
 obtain ⟨δ',e,y3,y4,hδ⟩:=mS (f:=fun (k:Nat)=>PyData.int (1+(k:Int))) (i:=3) (N:=m) (B:=rF C) (all:=List.range m)
  (fun pre δ=>∃y3 y4,δ=[some (hs C m c'),some (.own (base++pre.flatMap (hG m col))),some (.d (.int (col:Int))),y3,y4])
  (fun pre a δ ha hp ⟨y3,y4,hδ⟩=>by
   subst hδ
   have hl:=fg (fun a=>mD m col a hm) pre
   refine ⟨_,Dv C m hm c' col a (List.mem_range.mp ha) (base++pre.flatMap (hG m col)) (by rw [List.length_append]; lia) y4,some (.d (.int (1+(a:Int)))),some (.d (.int ((m:Int)-(1+(a:Int))+1))),?_⟩
   rw [List.flatMap_append,<-List.append_assoc,show [a].flatMap (hG m col)=hG m col a by simp])
  (List.range m) [] [some (hs C m c'),some (.own base),some (.d (.int (col:Int))),x3,x4] (fun _ h=>h) 0x4 ⟨x3,x4,0x4⟩
 refine ⟨y3,y4,?_⟩
 rw [e,hδ]
 rfl
theorem qS (col:Nat) (hm:m<=13):(jx m col).length<=169:=by
 have:=fg (fun a=>mD m col a hm) (List.range m)
 rw [List.length_range] at this
 unfold jx
 lia
theorem we (hm:m<=13) (hc:c<=4):fF C [hs C m c]=rt (.new (jC m c)):=by
 unfold fF oV eG
 have hd:nc ["house", "found", "colour", "first", "room"] [hs C m c]=[some (hs C m c),none,none,none,none]:=rfl
 rw [hd]
 have s1:aW 1 (cC aj) [some (hs C m c),none,none,none,none]=rt (.nx [some (hs C m c),some (.own []),none,none,none]):=rfl
 rw [cF s1]
 obtain ⟨δ',e,y2,y3,y4,hδ⟩:=mS (f:=fun (k:Nat)=>PyData.int (k:Int)) (i:=2) (N:=c) (B:=rC C) (all:=List.range c)
  (fun pre δ=>∃y2 y3 y4,δ=[some (hs C m c),some (.own (pre.flatMap (jx m))),y2,y3,y4])
  (fun pre a δ ha hp ⟨y2,y3,y4,hδ⟩=>by
   subst hδ
   have hl:=fg (fun a=>qS m a hm) pre
   obtain ⟨z3,z4,e⟩:=Er C m hm c a (pre.flatMap (jx m)) 0x1 y3 y4
   refine ⟨_,e,some (.d (.int (a:Int))),z3,z4,?_⟩
   rw [List.flatMap_append,show [a].flatMap (jx m)=jx m a by simp])
  (List.range c) [] [some (hs C m c),some (.own []),none,none,none] (fun _ h=>h) 0x4 ⟨none,none,none,0x4⟩
 have s2:dZ (qW (aa (ft C "colours" (af 0)) aj)) (ar 2) (rC C) [some (hs C m c),some (.own []),none,none,none]=rt (.nx [some (hs C m c),some (.own (jC m c)),y2,y3,y4]):=by
  unfold dZ
  rw [jK (bh (gn C m c)) 0x1 0x1,aE,show (c:Int).toNat=c by lia,yO,e,hδ]
  rfl
 rw [show (dZ (qI (aa (eC (.int 1)) (aa (e2 aH (ft C "most" (af 0)) (eC (.int 1))) aj))) (ar 3) (bE (aW 4 (e2 aH (e2 gSub (ft C "most" (af 0)) (af 3)) (eC (.int 1)))) (lr 1 (bb 1 [2,3] (qI (aa (eC (.int 3)) (aa (e2 aH (af 4) (eC (.int 1))) aj))) (ar 0) bY (bf (aa (eC (.str "run")) (aa (af 1) (aa (af 2) (aa (af 0) aj)))))))))=rC C from rfl]
 rw [cF s2,bC (x:=.own (jC m c)) rfl]
 rfl
end
noncomputable def kH (c:Nat):List (List Int):=match c with
 |3=>[[0,1,2]]
 |4=>[[0,1,2],[0,1,2,3],[0,1,3],[0,2,3],[1,2,3]]
 |_=>[]
noncomputable def dt (ch:List (List Int)) (n0:Nat):List D:=ch.map fun k=>gp (1+(n0:Int)) k
noncomputable def eY (ch:List (List Int)) (m:Nat):List D:=(List.range m).flatMap (dt ch)
noncomputable def kC:DS->M Out:=(fun δ=>(aW 1 (e2 aH (af 1) (bb 1 [2] (kG (af 1)) (ar 0) bY (e2 aH (af 0) (bf (aa (af 1) aj)))))) (frz 1 δ))
noncomputable def kE:DS->M Out:=(fun δ=>(aZ (aL kY (aa (bb 1 [] (kG (af 1)) (ar 0) (fun δ=>bd (e2 Cg (aL dF (aa (af 0) aj)) (eC (.int 3)) δ) bI) (af 0)) aj))) (frz 1 δ))
section
variable (C:Addr) (m:Int)
theorem zu (x:DV) (c:Nat) (h1:1<=c) (h4:c<=4):bE (fun δ=>du (ar 2) kC (df 0 c) δ) kE [some x,some (.own [.tuple []]),none]=rt (.rt (.new ((kH c).map tp))):=by
 match c,h1,h4 with
 |1,_,_=>kernel_rfl
 |2,_,_=>kernel_rfl
 |3,_,_=>kernel_rfl
 |4,_,_=>kernel_rfl
 |n+5,_,h=>lia
theorem zf (c:Nat) (h1:1<=c) (h4:c<=4):b8 C [hs C m c]=rt (.new ((kH c).map tp)):=by
 unfold b8 iA eG
 have hd:nc ["house", "choices", "colour"] [hs C m c]=[some (hs C m c),none,none]:=rfl
 rw [hd]
 have s1:aW 1 (cC (aa (bf aj) aj)) [some (hs C m c),none,none]=rt (.nx [some (hs C m c),some (.own [.tuple []]),none]):=rfl
 rw [cF s1]
 have e:=zu (hs C m c) c h1 h4
 unfold bE at e ⊢
 unfold dZ
 rw [jK (bh (gn C m c)) 0x1 0x1,aE,show (c:Int).toNat=c by lia]
 exact (congrArg (fun z=>bd z zk) e).trans rfl
noncomputable def gB:DS->M Out:=(fun δ=>(lr 2 (bb 1 [3] (kG (af 1)) (ar 0) bY (bf (aa (eC (.str "group")) (aa (af 1) (aa (af 0) aj)))))) (frz 1 δ))
theorem jX {ch:List (List Int)} (hch:ch.length<=5) (n0:Nat):(dt ch n0).length<=5:=by unfold dt; simp; exact hch
theorem ot (c:Nat):(kH c).length<=5:=by
 match c with
 |0|1|2|3|4=>decide
 |n+5=>exact Nat.zero_le _
theorem Dr (x:DV) (ch:List (List Int)) (hch:ch.length<=5) (n0:Nat) (base:List D) (hb:base.length<=1000) (x1:DV) (h1:x1=.own (ch.map tp)\/x1=.d (.list (ch.map tp))) :
  gB [some x,some x1,some (.own base),some (.d (.int (1+(n0:Int))))]=rt (.nx [some x,some (.d (.list (ch.map tp))),some (.own (base++dt ch n0)),some (.d (.int (1+(n0:Int))))]):=by
 have hf:frz 1 [some x,some x1,some (.own base),some (.d (.int (1+(n0:Int))))]=[some x,some (.d (.list (ch.map tp))),some (.own base),some (.d (.int (1+(n0:Int))))]:=by
  rcases h1 with h|h <;> (subst h; rfl)
 unfold gB
 rw [hf]
 have c1:cO (ar 0) bY (bf (aa (eC (.str "group")) (aa (af 1) (aa (af 0) aj)))) (cT 1 [3] [some x,some (.d (.list (ch.map tp))),some (.own base),some (.d (.int (1+(n0:Int))))]) (ch.map tp)=some (dt ch n0):=by
  unfold dt
  refine dq fun k hk=>?_
  exact HV rfl rfl rfl
 have e1:bb 1 [3] (kG (af 1)) (ar 0) bY (bf (aa (eC (.str "group")) (aa (af 1) (aa (af 0) aj)))) [some x,some (.d (.list (ch.map tp))),some (.own base),some (.d (.int (1+(n0:Int))))]=rt (.new (dt ch n0)):=
  bp (gd rfl) (by rw [List.length_map]; lia) c1
 rw [tZ (xs:=base) rfl e1 (by have:=jX hch n0; lia)]
 rfl
theorem tM (m c:Nat) (hm:m<=13) (h1:1<=c) (h4:c<=4):dQ C [hs C m c]=rt (.new (eY (kH c) m)):=by
 unfold dQ l0 eG
 have hd:nc ["house", "choices", "found", "number"] [hs C m c]=[some (hs C m c),none,none,none]:=rfl
 rw [hd]
 have s1:aW 1 (aL (ax 1 (b8 C)) (aa (af 0) aj)) [some (hs C m c),none,none,none]=rt (.nx [some (hs C m c),some (.own ((kH c).map tp)),none,none]):=
  lu (x:=.new ((kH c).map tp)) (bB (n:=1) (bh (x:=hs C m c) rfl) rfl rfl (zf C m c h1 h4)) rfl
 have s2:aW 2 (cC aj) [some (hs C m c),some (.own ((kH c).map tp)),none,none]=rt (.nx [some (hs C m c),some (.own ((kH c).map tp)),some (.own []),none]):=rfl
 rw [cF s1,cF s2]
 obtain ⟨δ',e,y1,y3,hδ,_⟩:=mS (f:=fun (k:Nat)=>PyData.int (1+(k:Int))) (i:=3) (N:=m) (B:=gB) (all:=List.range m)
  (fun pre δ=>∃y1 y3,δ=[some (hs C m c),some y1,some (.own (pre.flatMap (dt (kH c)))),y3]/\(y1=.own ((kH c).map tp)\/y1=.d (.list ((kH c).map tp))))
  (fun pre a δ ha hp ⟨y1,y3,hδ,hy⟩=>by
   subst hδ
   have hl:=fg (fun a=>jX (ot c) a) pre
   refine ⟨_,Dr (hs C m c) (kH c) (ot c) a (pre.flatMap (dt (kH c))) 0x1 y1 hy,_,some (.d (.int (1+(a:Int)))),?_,.inr rfl⟩
   rw [List.flatMap_append,show [a].flatMap (dt (kH c))=dt (kH c) a by simp])
  (List.range m) [] [some (hs C m c),some (.own ((kH c).map tp)),some (.own []),none] (fun _ h=>h) 0x4 ⟨.own ((kH c).map tp),none,0x4,.inl rfl⟩
 have fl:e2 aH (ft C "most" (af 0)) (eC (.int 1)) [some (hs C m c),some (.own ((kH c).map tp)),some (.own []),none]=rt (.d (.int ((m:Int)+1))):=(au (iF C m c) rfl).trans (b9 _ _)
 have s3:dZ (qI (aa (eC (.int 1)) (aa (e2 aH (ft C "most" (af 0)) (eC (.int 1))) aj))) (ar 3) gB [some (hs C m c),some (.own ((kH c).map tp)),some (.own []),none]=rt (.nx [some (hs C m c),some y1,some (.own (eY (kH c) m)),y3]):=by
  unfold dZ
  rw [jI (bH (x:=.d (.int 1)) rfl fl) 0x1 0x1 0x1 0x1,aE,show ((m:Int)+1-1).toNat=m by lia]
  unfold df
  rw [e,hδ]
  rfl
 rw [show (fun δ=>(lr 2 (bb 1 [3] (kG (af 1)) (ar 0) bY (bf (aa (eC (.str "group")) (aa (af 1) (aa (af 0) aj)))))) (frz 1 δ))=gB from rfl]
 rw [cF s3,bC (x:=.own (eY (kH c) m)) rfl]
 rfl
noncomputable def gD (m c:Nat):List D:=eY (kH c) m++jC m c
theorem nh {ch:List (List Int)} (hch:ch.length<=5) (m:Nat):(eY ch m).length<=5*m:=by
 have:=fg (fun a=>jX hch a) (List.range m)
 rwa [List.length_range] at this
theorem rK (m c:Nat) (hm:m<=13):(jC m c).length<=169*c:=by
 have:=fg (fun a=>qS m a hm) (List.range c)
 rwa [List.length_range] at this
theorem Ct (m c:Nat) (hm:m<=13) (h1:1<=c) (h4:c<=4):lG C [hs C m c]=rt (.new (gD m c)):=by
 unfold lG xF eG
 have hd:nc ["house"] [hs C m c]=[some (hs C m c)]:=rfl
 rw [hd]
 have e1:aL (ax 1 (dQ C)) (aa (af 0) aj) [some (hs C m c)]=rt (.new (eY (kH c) m)):=bB (n:=1) (bh (x:=hs C m c) rfl) rfl rfl (tM C m c hm h1 h4)
 have e2':aL (ax 1 (fF C)) (aa (af 0) aj) [some (hs C m c)]=rt (.new (jC m c)):=bB (n:=1) (bh (x:=hs C m c) rfl) rfl rfl (we C m c hm h4)
 have l1:=nh (ot c) m
 have l2:=rK m c hm
 rw [bC ((au e1 e2').trans (oz rfl rfl rfl 0x1))]
 rfl
end
theorem B6 {k k':List Int} (h:tp k=tp k'):k=k':=by
 unfold tp at h
 have h':=PyData.tuple.inj h
 clear h
 induction k generalizing k' with
 |nil=>cases k' with
  |nil=>rfl
  |cons _ _=>cases h'
 |cons x r ih=>cases k' with
  |nil=>cases h'
  |cons y r'=>
   rw [List.map_cons,List.map_cons] at h'
   obtain ⟨h1,h2⟩:=List.cons.inj h'
   rw [PyData.int.inj h1,ih h2]
theorem vH (k k':List Int):PyData.eqv (tp k) (tp k')=decide (k=k'):=by
 unfold tp PyData.eqv
 exact pA k k'
theorem xm (a b:Int):PyData.eqv (.int a) (.int b)=decide (a=b):=by
 unfold PyData.eqv
 by_cases h:a=b
 ·subst h; simp
 ·simp [h]
theorem wA (c f n c' f' n':Int):PyData.eqv (rn c f n) (rn c' f' n')=(decide (c=c')&&(decide (f=f')&&decide (n=n'))):=by
 unfold rn
 simp only [PyData.eqv,PyData.eqvAll]
 have:(("run" : Str)==("run" : Str))=true:=by decide +kernel
 rw [this]
 simp [xm,PyData.eqv]
 rfl
theorem wa (n n':Int) (k k':List Int):PyData.eqv (gp n k) (gp n' k')=(decide (n=n')&&decide (k=k')):=by
 unfold gp
 simp only [PyData.eqv,PyData.eqvAll]
 have:(("group" : Str)==("group" : Str))=true:=by decide +kernel
 rw [this,vH]
 simp
 rfl
theorem rq (c f n n':Int) (k':List Int):PyData.eqv (rn c f n) (gp n' k')=false:=by
 unfold gp rn
 simp only [PyData.eqv,PyData.eqvAll]
 have:(("run" : Str)==("group" : Str))=false:=by decide +kernel
 rw [this]; rfl
theorem ro (c f n n':Int) (k':List Int):PyData.eqv (gp n' k') (rn c f n)=false:=by
 unfold gp rn
 simp only [PyData.eqv,PyData.eqvAll]
 have:(("group" : Str)==("run" : Str))=false:=by decide +kernel
 rw [this]; rfl
theorem IU (a b:Int) (xs ys:List D):cL true (.int a::xs) (.int b::ys)=if a=b then cL true xs ys else some (decide (a<b)):=by
 rw [cL,xm]
 by_cases h:a=b
 ·rw [if_pos h,if_pos (decide_eq_true h)]
 ·rw [if_neg h,if_neg (by simpa using h)]
  rfl
theorem yB (xs ys:List D) (t:Str) (h:PyData.eqv (.str t) (.str t)=true):cL true (.str t::xs) (.str t::ys)=cL true xs ys:=by
 rw [cL,if_pos h]
theorem EC (c f n c' f' n':Int):cD true (rn c f n) (rn c' f' n')=some (ll [c,f,n] [c',f',n']):=by
 unfold rn cD
 rw [yB _ _ _ oX]
 exact tL [c,f,n] [c',f',n']
theorem EN (n n':Int) (k k':List Int):cD true (gp n k) (gp n' k')=some (ll (n::k) (n'::k')):=by
 unfold gp cD
 rw [yB _ _ _ wq,IU,cz]
 by_cases h:n=n'
 ·rw [if_pos h,if_pos h,cL,vH]
  by_cases hk:k=k'
  ·subst hk
   rw [if_pos 0x4,fH]; rfl
  ·rw [if_neg (by simpa using hk)]
   exact tL k k'
 ·rw [if_neg h,if_neg h]
theorem E2 (c f n n':Int) (k':List Int):cD true (gp n' k') (rn c f n)=some true:=by
 unfold gp rn cD
 rw [cL,if_neg (by rw [pj]; exact Bool.false_ne_true)]
 show some (cS true "group" "run")=some true
 congr 1
theorem EA (c f n n':Int) (k':List Int):cD true (rn c f n) (gp n' k')=some false:=by
 unfold gp rn cD
 rw [cL,if_neg (by rw [BF]; exact Bool.false_ne_true)]
 show some (cS true "run" "group")=some false
 congr 1
theorem yf:∀k:List Int,zd (k.map PyData.int)=true
 |[]=>rfl
 |x::r=>by rw [List.map_cons,zd,yf r]; rfl
theorem HX (c f n:Int):jV (rn c f n)=true:=rfl
theorem HR (n:Int) (k:List Int):jV (gp n k)=true:=by
 unfold gp tp
 simp [jV,zd,yf]
theorem xj:∀k:List Int,PyData.depthAll (k.map PyData.int)<=1
 |[]=>Nat.zero_le _
 |x::r=>by
  have:=xj r
  rw [List.map_cons,PyData.depthAll]
  show max _ _<=1
  have:(PyData.int x).depth<=1:=by unfold PyData.depth; lia
  lia
theorem Hq (c f n:Int):(rn c f n).depth<=50:=by
 unfold rn
 simp [PyData.depth,PyData.depthAll]
theorem H9 (n:Int) (k:List Int):(gp n k).depth<=50:=by
 have:=xj k
 unfold gp tp
 simp [PyData.depth,PyData.depthAll]
 lia
noncomputable def vq (x:D):Prop:=(∃c f n,x=rn c f n)\/(∃n k,x=gp n k)
theorem qr {m c:Nat} {x:D} (h:x∈jC m c):∃col f0 s:Nat,col<c/\f0<m/\s<m-2-f0/\x=rn (col:Int) (1+(f0:Int)) (3+(s:Int)):=by
 unfold jC jx hG at h
 simp only [List.mem_flatMap,List.mem_map,List.mem_range] at h
 obtain ⟨col,h1,f0,h2,s,h3,rfl⟩:=h
 exact ⟨col,f0,s,h1,h2,h3,rfl⟩
theorem AV {m c col f0 s:Nat} (h1:col<c) (h2:f0<m) (h3:s<m-2-f0):rn (col:Int) (1+(f0:Int)) (3+(s:Int))∈jC m c:=by
 unfold jC jx hG
 simp only [List.mem_flatMap,List.mem_map,List.mem_range]
 exact ⟨col,h1,f0,h2,s,h3,rfl⟩
theorem lh {ch:List (List Int)} {m:Nat} {x:D} (h:x∈eY ch m):∃n0:Nat,∃k∈ch,n0<m/\x=gp (1+(n0:Int)) k:=by
 unfold eY dt at h
 simp only [List.mem_flatMap,List.mem_map,List.mem_range] at h
 obtain ⟨n0,h1,k,hk,rfl⟩:=h
 exact ⟨n0,k,hk,h1,rfl⟩
theorem vW {ch:List (List Int)} {m n0:Nat} {k:List Int} (h1:n0<m) (hk:k∈ch):gp (1+(n0:Int)) k∈eY ch m:=by
 unfold eY dt
 simp only [List.mem_flatMap,List.mem_map,List.mem_range]
 exact ⟨n0,h1,k,hk,rfl⟩
theorem vq.cmp {x y:D} (hx:vq x) (hy:vq y):(cD true x y).isSome=true:=by
 rcases hx with ⟨c,f,n,rfl⟩|⟨n,k,rfl⟩ <;> rcases hy with ⟨c',f',n',rfl⟩|⟨n',k',rfl⟩
 ·rw [EC]; rfl
 ·rw [EA]; rfl
 ·rw [E2]; rfl
 ·rw [EN]; rfl
theorem vq.ok {x:D} (hx:vq x):jV x=true:=by
 rcases hx with ⟨c,f,n,rfl⟩|⟨n,k,rfl⟩
 ·exact HX ..
 ·exact HR ..
theorem sj (m c:Nat) (col f n:Int):((gD m c).any fun z=>PyData.eqv z (rn col f n))=lW m c col f n:=by
 apply Bool.eq_iff_iff.mpr
 rw [List.any_eq_true]
 constructor
 ·rintro ⟨x,hx,he⟩
  rcases List.mem_append.mp hx with h|h
  ·obtain ⟨n0,k,_,_,rfl⟩:=lh h
   rw [ro] at he; cases he
  ·obtain ⟨col',f0,s,h1,h2,h3,rfl⟩:=qr h
   rw [wA] at he
   simp only [Bool.and_eq_true,decide_eq_true_eq] at he
   obtain ⟨rfl,rfl,rfl⟩:=he
   unfold lW aX
   simp only [Bool.and_eq_true,decide_eq_true_eq]
   lia
 ·intro h
  unfold lW aX at h
  simp only [Bool.and_eq_true,decide_eq_true_eq] at h
  refine ⟨rn ((col.toNat:Nat):Int) (1+(((f-1).toNat:Nat):Int)) (3+(((n-3).toNat:Nat):Int)),J2 _ (AV 0x1 0x1 0x1),?_⟩
  rw [wA]
  simp only [Bool.and_eq_true,decide_eq_true_eq]
  lia
theorem sZ (m c:Nat) (n:Int) (k:List Int):((gD m c).any fun z=>PyData.eqv z (gp n k))=(decide (1<=n)&&decide (n<=(m:Int))&&decide (k∈kH c)):=by
 apply Bool.eq_iff_iff.mpr
 rw [List.any_eq_true]
 constructor
 ·rintro ⟨x,hx,he⟩
  rcases List.mem_append.mp hx with h|h
  ·obtain ⟨n0,k',hk,h1,rfl⟩:=lh h
   rw [wa] at he
   simp only [Bool.and_eq_true,decide_eq_true_eq] at he ⊢
   obtain ⟨rfl,rfl⟩:=he
   exact ⟨0x1,hk⟩
  ·obtain ⟨col',f0,s,h1,h2,h3,rfl⟩:=qr h
   rw [rq] at he; cases he
 ·intro h
  simp only [Bool.and_eq_true,decide_eq_true_eq] at h
  refine ⟨gp (1+(((n-1).toNat:Nat):Int)) k,J3 _ (vW 0x1 h.2),?_⟩
  rw [wa]
  simp only [Bool.and_eq_true,decide_eq_true_eq]
  exact ⟨0x1,trivial⟩
noncomputable def yp (c:Nat) (k:List Int):Bool:=decide (3<=k.length)&&k.all (fun x=>decide (0<=x)&&decide (x<(c:Int)))&&asc k
theorem CQ (m c:Nat) (n:Int) (k:List Int) (h:yp c k=decide (k∈kH c)):l5 m c n k=(decide (1<=n)&&decide (n<=(m:Int))&&decide (k∈kH c)):=by
 rw [<-h]
 unfold l5 yp aX
 match k with
 |[]=>simp
 |x::r=>
  by_cases hn:(decide (1<=n)&&decide (n<=(m:Int)))=true
  ·simp only [hn,Bool.true_and]
  ·have hn':(decide (1<=n)&&decide (n<=(m:Int)))=false:=by simpa using hn
   simp only [hn',Bool.false_and,List.all_cons,Bool.and_false]
end LW
namespace L3
open PySem PySem.Spec L2
open PyProof.Rows hiding St
open Classical in
noncomputable def lx (P:Program) (w:World) (C:Addr) (x:DV):Option (By×(PyData->Option Int)×List PyData):=match x with
 |.fz (.tb P' w' C' l f U)=>if P'=P/\w'=w/\C'=C then some (l,f,U) else none
 |_=>none
@[simp] theorem kd (P:Program) (w:World) (C:Addr) (l:By) (f:PyData->Option Int) (U:List PyData):lx P w C (.fz (.tb P w C l f U))=some (l,f,U):=if_pos ⟨rfl,rfl,rfl⟩
theorem gw {P:Program} {w:World} {C:Addr} {x:DV} {l:By} {f:PyData->Option Int} {U:List PyData} (h:lx P w C x=some (l,f,U)):x=.fz (.tb P w C l f U):=by
 unfold lx at h
 split at h
 ·split at h
  ·rename_i z
   obtain ⟨rfl,rfl,rfl⟩:=z
   cases h; rfl
  ·cases h
 ·cases h
structure HasM (P:Program) (w:World) (K:Kd) (mg:Str->Option Value) (base:Heap) (k:Nat) (C:Addr) (m:Str) (n:Nat) (fm:List DV->M DV):Prop where
 ex:∃fn fd ps,FnOk P w K mg base so k fn fd ps (Eb n fm)/\Meth K C m fn/\gh K fd ps []
 no:∀v u:V,([("by_least",v),("known",u)]:List (Str×V)).lookup m=none
theorem pz {m:Str} (h1:(m==("by_least" : Str))=false) (h2:(m==("known" : Str))=false) (v u:V):([("by_least",v),("known",u)]:List (Str×V)).lookup m=none:=by
 rw [List.lookup_cons,h1,List.lookup_cons,h2]; rfl
noncomputable def dv (P:Program) (w:World) (C:Addr) (n:Nat) (fm:List DV->M DV) (fo:DS->M DV) (fr:DS->M (List DV)) (δ:DS):M DV:=bd (fo δ) fun x=>bd (op (lx P w C x)) fun _=>bd (fr δ) fun ys=>ax n fm (x::ys)
section
variable {X:Cx} {E:XK} {o e f:Expr} {es:List Expr} {pos apos cpos p1 p2:Pos} {fo fe ff:DS->M DV} {fr:DS->M (List DV)} {C:Addr}
theorem fj {pl:Sem Bool} {k n:Nat} {m:Str} {fm:List DV->M DV} (F:HasM X.prog X.w X.K X.mg X.base k C m n fm) (hr:Room k X.A) (c:Cls X.K C) (ho:PX X E o fo) (ha:uS X E (e::es) fr)
  (hst:starEach (e::es) X.env=(false,eval e X.env)::starEach es X.env:=by rfl) (hpl:(backTo pos (starEach es X.env)).any (·.1)=false:=by rfl)
  (ht:eval (.Call (.Attribute o m apos) (e::es) [] pos) X.env=(do
   let ov <-eval o X.env
   standAt apos.atName
   let (f,first) <-holding [ov] (getMethod ov m pl)
   callWith pos f first (backTo pos (starEach (e::es) X.env)) (backToKw pos (keywordEach [] X.env))):=by rfl) :
  PX X E (.Call (.Attribute o m apos) (e::es) [] pos) (dv X.prog X.w C n fm fo fr):=by
 obtain ⟨fn,fd,ps,h1,h2,h3⟩:=F.ex
 refine PE.mono (DW (E:=E0) ho c h2 h1 hr h3 .nil (fun _ _ _ _ _ _ _ h=>h.elim) ha hst hpl ht) fun σ H Q q=>?_
 refine lE (g:=fun δ x=>bd (op (lx X.prog X.w C x)) fun _=>bd (fr δ) fun ys=>ax n fm (x::ys)) q fun O P δ x r v H1 rs rs1 s1 rx e q=>?_
 obtain ⟨⟨l,f,U⟩,e0,e⟩:=bt e
 have hx:=gw e0
 subst hx
 obtain ⟨a,dx,rfl,hz,b,m',kvs,hA,hrest⟩:=id rx
 refine ⟨a,dx,_,rfl,hA,F.no _ _,?_⟩
 rcases az e with ⟨ys,e1,e2⟩|⟨cx,e1,e2⟩
 ·refine ⟨O,P,δ,.ok ys,rs1,e1,fun vs H2 s2 ry=>?_⟩
  obtain ⟨zs,h1,h2⟩:=bt e2
  split at h2
  ·rename_i hl
   cases hf:fm zs with
   |none=>rw [hf] at h2; cases h2
   |some z=>
    rw [hf] at h2
    cases z with
    |error c=>cases h2
    |ok x=>
     cases h2
     have rall:lA O P H1 H2 (.fz (.tb X.prog X.w C l f U)::ys) (.ref a::vs):=.cons (show xZ (P++O) H2 _ _ from xZ.kp (.same s2) (show xZ (P++O) H1 _ _ from rx)) ry
     have rz:=lA.hand rs1.dom s2 rall h1
     refine ⟨?_,P++O,zs,x,fun a ha=>?_,?_,hf,fun v H' s3 rv=>q v H' (s2.trans s3) (rv.back (s1.trans s2))⟩
     ·rw [List.append_nil]
      exact (Paired.length rz).symm.trans hl
     ·obtain ⟨o,e'⟩:=rs1.dom a ha
      exact ⟨o,s2 a o e'⟩
     ·rw [List.append_nil]; exact rz
  ·cases h2
 ·subst e2
  exact ⟨O,P,δ,.error cx,rs1,e1,q⟩
noncomputable def oS:DV->Option dM
 |.d (.tuple [.int a,.int b])=>some (a,b)
 |_=>none
theorem vp {x:DV} {t:dM} (h:oS x=some t):x=.d (tD t):=by
 unfold oS at h
 split at h
 ·cases h; rfl
 ·cases h
noncomputable def cU (l:By) (t:dM):List (List dM):=((l.find? fun x=>decide (x.1=t)).map (·.2)).getD []
noncomputable def qh:DV->Bool
 |.new []=>true
 |_=>false
noncomputable def Dx (P:Program) (w:World) (C:Addr) (fo fe ff:DS->M DV) (δ:DS):M DV:=bd (fo δ) fun x=>bd (op (lx P w C x)) fun q=>bd (fe δ) fun y=>bd (op (oS y)) fun t=>bd (ff δ) fun z=>if qh z=true then rt (.d (.list ((cU q.1 t).map wD))) else none
theorem sJ {s t:dM} (h:tD s=tD t):s=t:=by
 unfold tD at h
 injection h with h
 injection h with h1 h2
 injection h2 with h2 _
 injection h1 with h1
 injection h2 with h2
 exact Prod.ext h1 h2
theorem Bc.at {Z:List Addr} {H:Hp} {l:By} {kvs:List (D×V)} (h:Bc Z H l kvs) (t:dM):(iJ kvs (tD t)=none/\cU l t=[])\/∃v,iJ kvs (tD t)=some v/\Rp Z H (.list ((cU l t).map wD)) v:=by
 unfold Bc at h
 induction h with
 |nil=>exact .inl ⟨rfl,rfl⟩
 |@cons p q ps qs h t' ih=>
  by_cases e:p.1=t
  ·have e':q.1=tD t:=by rw [h.1,e]
   refine .inr ⟨q.2,by simp [iJ,List.find?_cons,e'],?_⟩
   have:cU (p::ps) t=p.2:=by simp [cU,List.find?_cons,e]
   rw [this]; exact h.2
  ·have e':¬q.1=tD t:=fun z=>e (sJ (h.1.symm.trans z))
   have a1:iJ (q::qs) (tD t)=iJ qs (tD t):=by simp [iJ,List.find?_cons,e']
   have a2:cU (p::ps) t=cU ps t:=by simp [cU,List.find?_cons,e]
   rw [a1,a2]; exact ih
theorem RpT.of {Z:List Addr} {H:Hp} {t:dM} {v:V} (h:Rp Z H (tD t) v):∃b,v=.ref b/\RpT (tv H) (tD t) (.ref b):=by
 unfold tD at h
 cases h with
 |@tup a xs vs hz ha l=>
  refine ⟨a,rfl,.tup ha ?_⟩
  cases l with
  |cons h1 l=>
   cases l with
   |cons h2 l=>
    cases l
    cases h1
    cases h2
    exact .cons (.int _) (.cons (.int _) .nil)
theorem DE (hu:X.A.units+20<cLine) (c:Cls X.K C) (hn:dU X.K C "by_least") (ho:PX X E o fo) (he:PX X E e fe) (hf:PX X E f ff)
  (hb1:attributeBase o "by_least" X.env (eval o X.env)=eval o X.env:=by rfl) (hb2:attributeBase (.Attribute o "by_least" p1) "get" X.env (eval (.Attribute o "by_least" p1) X.env)=eval (.Attribute o "by_least" p1) X.env:=by rfl)
  (few:((backTo cpos (starEach [e,f] X.env)).all (fun x=>!x.1)&&(backToKw cpos (keywordEach [] X.env)).all (fun x=>x.1.isSome)
   && decide (([e,f]:List Expr).length+([]:List Keyword).length+(if ([]:List Keyword).isEmpty then 0 else 1)<30))=true:=by rfl)
  (line:(apos.endLine==cpos.line)=true:=by rfl) (trees:backTo cpos (starEach [e,f] X.env)=[(false,eval e X.env),(false,eval f X.env)]:=by rfl) :
  PX X E (.Call (.Attribute (.Attribute o "by_least" p1) "get" apos) [e,f] [] cpos) (Dx X.prog X.w C fo fe ff):=by
 intro pins s σ H Q I h
 refine wpAny_Call_method hb2 few line PySem.F.plainAttrs_dict PySem.F.slot_dict_get PySem.F.type_dict_get (bS (xb ho hb1 pins s σ H (fun v H1=>∃O P δ a dx b m kvs l g U r,RS O P H1 σ δ/\aD H H1/\v=.ref b/\xZ (P++O) H1 (.tb X.prog X.w C l g U) (.ref a)/\H1 a=some (.ins C dx [("by_least",.ref b),("known",.ref m)])/\H1 b=some (dO X.prog X.w b kvs)/\Bc (P++O) H1 l kvs /\
  (bd (fe δ) fun y=>bd (op (oS y)) fun t=>bd (ff δ) fun z=>if qh z=true then rt (.d (.list ((cU l t).map wD))) else none)=some r/\Fn E O P H H1 Q r) I ?_) fun u s1 zz=>?_)
 ·refine lE (g:=fun δ x=>bd (op (lx X.prog X.w C x)) fun q=>bd (fe δ) fun y=>bd (op (oS y)) fun t=>bd (ff δ) fun z=>if qh z=true then rt (.d (.list ((cU q.1 t).map wD))) else none) h fun O P δ x r v H1 rs rs1 s1 rx e q=>?_
  obtain ⟨⟨l,f,U⟩,e0,e9⟩:=bt e
  have hx:=gw e0
  subst hx
  obtain ⟨a,dx,rfl,hz,b,m',kvs,hA,hb,eb,hl,hm,em⟩:=id rx
  exact ⟨a,C,dx,_,.ref b,rfl,hA,c,hn,rfl,O,P,δ,a,dx,b,m',kvs,l,f,U,r,rs1,s1,rfl,rx,hA,eb,hl,e9,q⟩
 ·obtain ⟨v,H1,I1,rv,O,P,δ,a,dx,b,m,kvs,l,g,U,r,rs1,s1',ev,fz,ea,eb,hl,e1,q1⟩:=zz
  subst ev
  obtain rfl:u=Value.ref b:=rv
  have x:=xw I1.hok eb
  refine ⟨x.type.1,fun b' z=>?_,?_⟩
  ·cases z; exact x.type.2
  rw [trees]
  refine Calls.callWith_builtin rfl (Calls.evalArgs_plain (Calls.spliced_cons (bS (he pins s1 σ H1 (fun v H2=>∃t kb r',aD H1 H2/\v=.ref kb/\RpT (tv H2) (tD t) (.ref kb)/\(bd (ff δ) fun z=>if qh z=true then rt (.d (.list ((cU l t).map wD))) else none)=some r'/\Fn E O P H H2 Q r') I1 ?_)
   fun iv s2 ⟨y,H2,I2,ry,t,kb,r',s2',ey,hT,e2,q2⟩=>Calls.spliced_cons (bS (hf pins s2 σ H2 (fun v H3=>aD H2 H3/\Rp (P++O) H3 (.list []) v/\∀v H4,aD H3 H4->Rp (P++O) H4 (.list ((cU l t).map wD)) v->Q v H4) I2 ?_) fun fv s3 ⟨z,H3,I3,rz,s3',rn,q3⟩=>Calls.spliced_nil ?_))))
  ·rcases az e1 with ⟨y,e2,e3⟩|⟨cx,e2,e3⟩
   ·refine ⟨O,P,δ,.ok y,rs1,e2,fun v H2 s2 ry=>?_⟩
    obtain ⟨t,e4,e5⟩:=bt e3
    have hy:=vp e4
    subst hy
    obtain ⟨kb,rfl,hT⟩:=RpT.of (show Rp (P++O) H2 (tD t) v from ry)
    exact ⟨t,kb,r,s2,rfl,hT,e5,q1.on s2⟩
   ·subst e3
    exact ⟨O,P,δ,.error cx,rs1,e2,q1⟩
  ·rcases az e2 with ⟨z,e3,e4⟩|⟨cx,e3,e4⟩
   ·refine ⟨O,P,δ,.ok z,rs1.same s2',e3,fun v H3 s3 rz=>?_⟩
    split at e4
    ·rename_i hz
     cases e4
     have hz':z=.new []:=by
      unfold qh at hz
      split at hz
      ·rfl
      ·cases hz
     subst hz'
     exact ⟨s3,lX (rs1.same s2').dom rz,fun v H4 s4 rv=>q2 v H4 (s3.trans s4) rv⟩
    ·cases e4
   ·subst e4
    exact ⟨O,P,δ,.error cx,rs1.same s2',e3,q2⟩
  ·cases ey
   obtain rfl:iv=Value.ref kb:=ry
   have eb3:=s3' _ _ (s2' _ _ eb)
   have x3:=xw I3.hok eb3
   refine Gw hu I3 x3 (k:=tD t) rfl (Nat.le_of_lt (by decide:1<6)) (RpT.mono (fun b xs q=>s3' _ _ q) hT) rz fun w' s4 I4 rw'=>⟨_,H3,I4,rw',q3 _ H3 (aD.refl H3) ?_⟩
   rcases (hl.kp (.same (s2'.trans s3'))).at t with ⟨a1,a2⟩|⟨v,a1,a2⟩
   ·rw [a1,a2]; exact rn
   ·rw [a1]; exact a2
end
theorem Ab {prog:Program} {w:World} {A:Around} {E:Value->Shared->Prop} {s:Shared} {env:Env} {value slice:Expr} {pos:Pos} {Q:Value->Shared->Prop} (hs:j5 slice)
  (h:wpAny (model prog w) A (eval value env) (fun o s₁=>wpAny (model prog w) A (eval slice env) (fun i s₂=>s₂.TypeIs o "dict" /\ wpAny (model prog w) A (getItem o i) Q E s₂) E s₁) E s) :
  wpAny (model prog w) A (eval (.Subscript value slice pos) env) Q E s:=by
 refine Subscript_ (wpAny_mono h (fun o s₁ h₁=>wpAny_mono h₁ (fun i s₂ h₂=>?_) fun _ _ x=>x) fun _ _ x=>x)
 obtain ⟨hT,h₂⟩:=h₂
 unfold subscriptTail
 refine J6 ?_
 rw [getitemInPython_of_ne hT.not_modules]
 refine J6 (wpAny_specialOf hT PySem.F.slot_dict_getitem.lookup ?_)
 have fin:wpAny (model prog w) A (subscripted slice false o i) (fun r s₃=>wpAny (model prog w) A (letTemporaryGo value o r >>= fun _=>pure r) Q E s₃) E s₂:=by
  rw [hs o i]
  exact wpAny_operating (wpAny_mono h₂ (fun r s₃ h₃=>J6 (wpAny_letTemporaryGo (J7 h₃))) fun _ _ x=>x)
 first
  |exact J7 (J6 fin)
  |exact J6 (J7 (J6 fin))
  |exact J6 fin
structure MS (X:Cx) (i j:Nat) (σ:St) (H:Hp) (m kb:Addr) (k:PyData):Prop where
 self:∃a C dx b,σ[i]?=some (some (.ref a))/\H a=some (.ins C dx [("by_least",.ref b),("known",.ref m)])/\Cls X.K C/\dU X.K C "known"
 key:σ[j]?=some (some (.ref kb))
 rp:RpT (tv H) k (.ref kb)
 ki:cQ k=true
 dp:k.depth<=6
theorem MS.upd {X:Cx} {i j:Nat} {σ:St} {H:Hp} {m kb:Addr} {k:PyData} {φ:(Addr->List V->Prop)->Heap->Prop} {o:HO} (h:MS X i j σ H m kb k) (e:H m=some (.ext φ)):MS X i j σ (upd H m o) m kb k:=by
 obtain ⟨⟨a,C,dx,b,h1,h2,h3,h4⟩,h5,h6,h7,h8⟩:=h
 exact ⟨⟨a,C,dx,b,h1,by rw [aA (ES h2 e (fun z=>nomatch z))]; exact h2,h3,h4⟩,h5,h6.mono (tG e),h7,h8⟩
theorem MS.same {X:Cx} {i j:Nat} {σ:St} {H H':Hp} {m kb:Addr} {k:PyData} (h:MS X i j σ H m kb k) (s:aD H H'):MS X i j σ H' m kb k:=by
 obtain ⟨⟨a,C,dx,b,h1,h2,h3,h4⟩,h5,h6,h7,h8⟩:=h
 exact ⟨⟨a,C,dx,b,h1,s _ _ h2,h3,h4⟩,h5,h6.mono fun _ _ q=>s _ _ q,h7,h8⟩
open Classical in
noncomputable def yE (P:Program) (w:World) (C:Addr) (i j:Nat) (fv:DS->M DV) (δ:DS):M Out:=match δ[i]?,δ[j]? with
 |some (some x),some (some (.d (.tuple ks)))=>bd (op (lx P w C x)) fun q=>bd (op (q.2.1 (.tuple ks))) fun n=>if cQ (.tuple ks)=true/\(PyData.tuple ks).depth<=6/\.tuple ks∈q.2.2/\q.2.2.length<=1000000/\fv δ=some (.ok (.d (.int n))) then rt (.rt (.d (.int n))) else none
 |_,_=>none
section
variable {X:Cx} {E:XK} {o ke value:Expr} {i j:Nat} {p1 p2 p3 p4 p5 p6 p7 p8 p9:Pos} {fv:DS->M DV} {C:Addr}
theorem zV {m kb:Addr} {k:PyData} (ho:PE X o (gY i)) (hb:attributeBase o "known" X.env (eval o X.env)=eval o X.env):PE X (.Attribute o "known" p1) (fun σ H Q=>MS X i j σ H m kb k/\Q (.ref m) H):=
 PE.mono (xb ho hb) fun σ H Q ⟨h,q⟩=>by
  obtain ⟨a,C,dx,b,h1,h2,h3,h4⟩:=h.self
  exact ⟨.ref a,h1,a,C,dx,_,.ref m,rfl,h2,h3,h4,rfl,q⟩
noncomputable def JN (P:Program) (w:World) (f:PyData->Option Int) (U:List PyData) (k:PyData) (m kb:Addr):R2:=fun x y H Q=>x=.ref kb/\y=.ref m/\H m=some (mO P w m f U)/\cQ k=true/\k.depth<=6/\RpT (tv H) k (.ref kb)/\Q (.bl true) H/\Q (.bl false) (upd H m (BU P w m f U k))
theorem HI {f:PyData->Option Int} {U:List PyData} {k:PyData} {m kb:Addr} (hu:X.A.units+20<cLine):rB X (compareOp .NotIn) (JN X.prog X.w f U k m kb):=by
 intro pins s σ H x y u v Q I rx ry h
 obtain ⟨rfl,rfl,h1,h2,h3,h4,h5,h6⟩:=h
 obtain rfl:u=Value.ref kb:=rx
 obtain rfl:v=Value.ref m:=ry
 exact Eo hu I h1 h2 h3 h4 (fun s' I'=>⟨.bl true,H,I',rfl,h5⟩) fun s' I'=>⟨.bl false,_,I',rfl,h6⟩
theorem CN {f:PyData->Option Int} {U:List PyData} {k:PyData} {m kb:Addr} {n:Int} {tv':TE} (hu:X.A.units+20<cLine) (ho:PE X o (gY i)) (hk:PE X ke (gY j)) (hv:PE X value tv') (hb:attributeBase o "known" X.env (eval o X.env)=eval o X.env)
  (hsw:swapsWith value (some (.Subscript (.Attribute o "known" p2) ke p3)) p4.line X.env=pure false) :
  PS X (.Assign [.Subscript (.Attribute o "known" p2) ke p3] value p4) (fun D σ H=>tv' σ H fun v H1=>v=.int n/\MS X i j σ H1 m kb k/\H1 m=some (mO X.prog X.w m f U)/\f k=some n/\k∈U/\U.length<=1000000/\D.nx σ (upd H1 m (BU X.prog X.w m f U k))):=by
 intro pins s σ H D I h
 refine wpAny_Assign_Subscript (bS (hv pins s σ H _ I h) fun r s1 ⟨v,H1,I1,rv,ev,ms,em,hf,hU,hl,q1⟩=>bS (zV (m:=m) (kb:=kb) (k:=k) (j:=j) ho hb pins s1 σ H1 (fun v H2=>v=.ref m/\H2=H1) I1 ⟨ms,rfl,rfl⟩) fun u s2 ⟨x,H2,I2,rx,ex,eH⟩=>bS (hk pins s2 σ H2 (fun v H3=>v=.ref kb/\H3=H1) I2 ⟨.ref kb,ms.key,rfl,eH⟩) fun iv s3 ⟨y,H3,I3,ry,ey,eH3⟩=>?_) hsw
 subst ev ex ey eH eH3
 obtain rfl:u=Value.ref m:=rx
 obtain rfl:iv=Value.ref kb:=ry
 exact Ik hu I3 em ms.ki ms.dp ms.rp rv hf hU (Nat.lt_of_le_of_lt hl (by rw [sizeLine_eq]; decide)) fun s4 I4=>⟨σ,_,I4,q1⟩
theorem CS {f:PyData->Option Int} {U:List PyData} {k:PyData} {m kb:Addr} {n:Int} (hu:X.A.units+20<cLine) (ho:PE X o (gY i)) (hk:PE X ke (gY j)) (hb:attributeBase o "known" X.env (eval o X.env)=eval o X.env) (hs:j5 ke) :
  PE X (.Subscript (.Attribute o "known" p2) ke p3) (fun σ H Q=>MS X i j σ H m kb k/\H m=some (BU X.prog X.w m f U k)/\f k=some n/\Q (.int n) (upd H m (mO X.prog X.w m f U))):=by
 intro pins s σ H Q I ⟨ms,em,hf,q⟩
 refine Ab hs (bS (zV (m:=m) (kb:=kb) (k:=k) (j:=j) ho hb pins s σ H (fun v H2=>v=.ref m/\H2=H) I ⟨ms,rfl,rfl⟩) fun u s2 ⟨x,H2,I2,rx,ex,eH⟩=>bS (hk pins s2 σ H2 (fun v H3=>v=.ref kb/\H3=H) I2 ⟨.ref kb,ms.key,rfl,eH⟩) fun iv s3 ⟨y,H3,I3,ry,ey,eH3⟩=>?_)
 subst ex ey eH eH3
 obtain rfl:u=Value.ref m:=rx
 obtain rfl:iv=Value.ref kb:=ry
 obtain ⟨⟨kvs,_,_,x⟩,_⟩:=(show cu X.prog X.w H3 s3.heap m (.ext _) from I3.hok m _ em)
 refine ⟨x.type.1,HM hu I3 em ms.ki ms.dp ms.rp fun i' t s' hi I'=>?_⟩
 rw [hf] at hi
 cases hi
 exact ⟨.int n,_,I',⟨t,rfl⟩,q⟩
theorem Fg {Z:List Addr} {H:Hp}:∀{d:PyData} {v:V},cQ d=true->Rp Z H d v->RpT (tv H) d v:=by
 intro d v h r
 refine Rp.rec (motive_1:=fun d v _=>cQ d=true->RpT (tv H) d v) (motive_2:=fun ds vs _=>fx ds=true->RpTL (tv H) ds vs) ?_ ?_ ?_ ?_ ?_ ?_ ?_ ?_ r h
 ·intro h; simp [cQ] at h
 ·intro _ h; simp [cQ] at h
 ·intro i _; exact .int i
 ·intro _ _ h; simp [cQ] at h
 ·intro a xs vs hz ha l ih h
  exact .tup ha (ih (by unfold cQ at h; exact h))
 ·intro _ _ _ _ _ _ _ h; simp [cQ] at h
 ·intro _; exact .nil
 ·intro d v ds vs r l ih1 ih2 h
  unfold fx at h
  rw [Bool.and_eq_true] at h
  exact .cons (ih1 h.1) (ih2 h.2)
theorem CO {o1 o2 o3 k1 k2 k3:Expr} (hu:X.A.units+20<cLine) (c:Cls X.K C) (hn:dU X.K C "known") (ho1:PE X o1 (gY i)) (ho2:PE X o2 (gY i)) (ho3:PE X o3 (gY i)) (hk1:PE X k1 (gY j)) (hk2:PE X k2 (gY j)) (hk3:PE X k3 (gY j)) (hv:PX X E value fv) (hs:j5 k3)
  (hb1:attributeBase o1 "known" X.env (eval o1 X.env)=eval o1 X.env:=by rfl) (hb2:attributeBase o2 "known" X.env (eval o2 X.env)=eval o2 X.env:=by rfl) (hb3:attributeBase o3 "known" X.env (eval o3 X.env)=eval o3 X.env:=by rfl) (hm:behindInMarks .NotIn (.Attribute o1 "known" p1)=false:=by first|exact wt _|rfl)
  (hsw:swapsWith value (some (.Subscript (.Attribute o2 "known" p2) k2 p3)) p4.line X.env=pure false:=by rfl) :
  y0 X E [.If (.Compare k1 [.NotIn] [.Attribute o1 "known" p1] p5) [.Assign [.Subscript (.Attribute o2 "known" p2) k2 p3] value p4] [] p6,.Return (some (.Subscript (.Attribute o3 "known" p7) k3 p8)) p9] (yE X.prog X.w C i j fv):=by
 intro pins s σ H D I h
 obtain ⟨O,P,δ,r,rs,e,q⟩:=h
 unfold yE at e
 split at e
 ·rename_i x ks ex ek
  obtain ⟨⟨l,f,U⟩,e0,e1⟩:=bt e
  have hx:=gw e0
  subst hx
  obtain ⟨n,e2,e3⟩:=bt e1
  split at e3
  ·rename_i hc
   obtain ⟨c1,c2,c3,c4,c5⟩:=hc
   cases e3
   obtain ⟨v,ev,_,a,dx,rfl,hz,b,m,kvs,hA,hb',eb,hl,hm',em⟩:=rs.at' i _ ex
   obtain ⟨kv,ekv,_,rk⟩:=rs.at' j _ ek
   have rT:=Fg c1 (show Rp (P++O) H (.tuple ks) kv from rk)
   obtain ⟨kb,rfl⟩:∃kb,kv=.ref kb:=by
    cases rT with
    |tup h l=>exact ⟨_,rfl⟩
   have ms:MS X i j σ H m kb (.tuple ks):=⟨⟨a,C,dx,b,ev,hA,c,hn⟩,ekv,rT,c1,c2⟩
   have back:∀H2,H2 m=some (mO X.prog X.w m f U)->upd (upd H2 m (BU X.prog X.w m f U (.tuple ks))) m (mO X.prog X.w m f U)=H2:=fun H2 e=>by
    rw [Ef]
    funext z
    unfold upd
    split
    ·rename_i hz; rw [hz,e]
    ·rfl
   have fin:∀H2,aD H H2->H2 m=some (mO X.prog X.w m f U)->G3 (fun σ H Q=>MS X i j σ H m kb (.tuple ks)/\H m=some (BU X.prog X.w m f U (.tuple ks))/\f (.tuple ks)=some n/\Q (.int n) (upd H m (mO X.prog X.w m f U))) D σ (upd H2 m (BU X.prog X.w m f U (.tuple ks))):=fun H2 s2 e=>by
    refine ⟨(ms.same s2).upd e,aN,e2,?_⟩
    rw [back H2 e]
    exact q (.int n) H H2 P .refl s2 rs.dom rs.apart (.int n)
   refine fX (yA (DU (HI (f:=f) (U:=U) (k:=.tuple ks) (m:=m) (kb:=kb) hu) hk1 (zV (m:=m) (kb:=kb) (k:=.tuple ks) (j:=j) ho1 hb1) hm) (fS (CN (f:=f) (U:=U) (n:=n) (k:=.tuple ks) (m:=m) (kb:=kb) hu ho2 hk2 hv hb2 hsw)) nW) (fS (wc (CS (f:=f) (U:=U) (n:=n) (k:=.tuple ks) (m:=m) (kb:=kb) hu ho3 hk3 hb3 hs))) pins s σ H D I ?_
   refine ⟨.ref kb,ekv,ms,rfl,rfl,em,c1,c2,rT,⟨true,rfl,vb ?_⟩,⟨false,rfl,uM ?_⟩⟩
   ·refine ⟨O,P,δ,_,rs,c5,fun v H1 s1 rv=>?_⟩
    have rv':Rp (P++O) H1 (.int n) v:=rv
    cases rv'
    exact ⟨rfl,ms.same s1,s1 _ _ em,e2,c3,c4,fin H1 s1 (s1 _ _ em)⟩
   ·exact fin H (aD.refl H) em
  ·cases e3
 ·cases e
end
noncomputable def jh (l:By) (t:dM):Bool:=l.any fun x=>decide (x.1=t)
noncomputable def fA (l:By) (t:dM) (w:List dM):By:=if jh l t=true then l.map fun x=>if x.1=t then (x.1,x.2++[w]) else x else l++[(t,[w])]
noncomputable def BP (O P:List Addr) (H:Hp) (p:dM×List (List dM)) (q:D×V):Prop:=q.1=tD p.1/\∃a vs,q.2=.ref a/\a∈P/\H a=some (.lst vs)/\RpL (P++O) H (p.2.map wD) vs
structure BI (Pr:Program) (w:World) (O P:List Addr) (H:Hp) (b:Addr) (l:By) (kvs:List (D×V)):Prop where
 mem:b∈P
 at':H b=some (dO Pr w b kvs)
 pr:Paired (BP O P H) l kvs
 nd:(kvs.map (·.2)).Nodup
 nk:(l.map (·.1)).Nodup
theorem RS.moved {O P P':List Addr} {H H':Hp} {σ:St} {δ:DS} (r:RS O P H σ δ) (hd:∀(i:Nat) (x:DV),δ[i]?=some (some x)->∃d,x=.d d) (k:Kp P H P' H') (dom:∀a,a∈P'->∃o,H' a=some o) (ap:∀a,a∈P'->a∉O):RS O P' H' σ δ:=by
 refine ⟨r.len,fun a ha=>?_,ap,fun i x e=>?_,fun i j x y v w a e1 e2 e3 e4 o1 o2=>?_⟩
 ·rcases List.mem_append.mp ha with h|h
  ·exact dom a h
  ·obtain ⟨o,e⟩:=r.dom a (J2 _ h)
   exact ⟨o,k.keep a o (fun z=>r.apart a z h) e⟩
 ·obtain ⟨d,rfl⟩:=hd i x e
  obtain ⟨v,e1,e2,e3⟩:=r.at' i _ e
  exact ⟨v,e1,e2,Rp.kp k.app (show Rp (P++O) H d v from e3)⟩
 ·obtain ⟨d,rfl⟩:=hd i x e1
  exact o1.elim
theorem Paired.idx {α β γ:Type} {F:α->β->Prop} {G:γ->β->Prop} {f:α->γ}:∀{l:List α} {m:List β},Paired F l m->(∀(i:Nat) x y,l[i]?=some x->m[i]?=some y->F x y->G (f x) y)->Paired G (l.map f) m
 |_,_,.nil,_=>.nil
 |_,_,.cons h t,k=>.cons (k 0 _ _ rfl rfl h) (Paired.idx t fun i x y e1 e2 r=>k (i+1) x y (by simpa using e1) (by simpa using e2) r)
theorem Paired.get {α β:Type} {F:α->β->Prop}:∀{l:List α} {m:List β},Paired F l m->∀{i:Nat} {y:β},m[i]?=some y->∃x,l[i]?=some x/\F x y
 |_,_,.nil,_,_,h=>by simp at h
 |_,_,.cons h t,0,_,e=>by simp at e; subst e; exact ⟨_,rfl,h⟩
 |_,_,.cons h t,i+1,_,e=>by
  obtain ⟨x,e1,e2⟩:=Paired.get t (i:=i) (by simpa using e)
  exact ⟨x,by simpa using e1,e2⟩
theorem rO {α β:Type} {f:α->β} {l:List α} (h:(l.map f).Nodup) {i j:Nat} {x y:α} (e1:l[i]?=some x) (e2:l[j]?=some y) (e:f x=f y):i=j:=by
 have a:(l.map f)[i]?=some (f x):=by rw [List.getElem?_map,e1]; rfl
 have c:(l.map f)[j]?=some (f y):=by rw [List.getElem?_map,e2]; rfl
 exact (List.getElem?_inj (List.getElem?_eq_some_iff.mp a).1 h).mp (a.trans (by rw [e]; exact c.symm))
section
variable {Pr:Program} {w:World} {O P:List Addr} {H:Hp} {b a:Addr} {l:By} {kvs:List (D×V)} {t:dM} {ws:List dM} {u v:V}
theorem BI.has (h:BI Pr w O P H b l kvs) (t:dM):(iJ kvs (tD t)).isSome=jh l t:=by
 have hp:=h.pr
 clear h
 induction hp with
 |nil=>rfl
 |@cons p q ps qs h r ih=>
  by_cases e:p.1=t
  ·have e':q.1=tD t:=by rw [h.1,e]
   simp [iJ,jh,List.find?_cons,e,e']
  ·have e':¬q.1=tD t:=fun z=>e (sJ (h.1.symm.trans z))
   have a1:iJ (q::qs) (tD t)=iJ qs (tD t):=by simp [iJ,List.find?_cons,e']
   have a2:jh (p::ps) t=jh ps t:=by simp [jh,e]
   rw [a1,a2]; exact ih
theorem BI.look (h:BI Pr w O P H b l kvs) (hv:iJ kvs (tD t)=some v):∃c vs ts,v=.ref c/\H c=some (.lst vs)/\c∈P/\(t,ts)∈l/\vs.length=ts.length:=by
 obtain ⟨i0,e0⟩:=List.mem_iff_getElem?.mp (oh hv)
 obtain ⟨⟨t',ts⟩,el,eq,c,vs,ec,hc,ha,hl⟩:=Paired.get h.pr e0
 have et:t=t':=sJ eq
 subst et
 exact ⟨c,vs,ts,ec,ha,hc,List.mem_of_getElem? el,by rw [<-hl.length]; simp⟩
theorem BI.old (h:BI Pr w O P H b l kvs) (hv:iJ kvs (tD t)=some v) (ru:Rp (P++O) H (wD ws) u) :
  ∃c vs,v=.ref c/\H c=some (.lst vs)/\(∃ts,(t,ts)∈l/\vs.length=ts.length)/\Kp P H P (upd H c (.lst (vs++[u])))/\BI Pr w O P (upd H c (.lst (vs++[u]))) b (fA l t ws) kvs:=by
 obtain ⟨i0,e0⟩:=List.mem_iff_getElem?.mp (oh hv)
 obtain ⟨⟨t',ts⟩,el,eq,c,vs,ec,hc,ha,hl⟩:=Paired.get h.pr e0
 have et:t=t':=sJ eq
 subst et
 have hbc:b≠c:=fun z=>by have:=h.at'; rw [z,ha] at this; cases this
 have k:Kp P H P (upd H c (.lst (vs++[u]))):=⟨fun d o hd q=>by rw [aA (show d≠c from fun z=>hd (by rw [z]; exact hc))]; exact q,fun d hd=>.inl hd⟩
 refine ⟨c,vs,ec,ha,⟨ts,List.mem_of_getElem? el,by rw [<-hl.length]; simp⟩,k,h.mem,by rw [aA hbc]; exact h.at',?_,h.nd,?_⟩
 ·unfold fA
  rw [if_pos (by rw [<-h.has,hv]; rfl)]
  refine Paired.idx h.pr fun i x y e1 e2 ⟨h1,a,us,h2,h3,h4,h5⟩=>?_
  by_cases e:x.1=t
  ·have hi:i=i0:=rO h.nk e1 el e
   subst hi
   rw [el] at e1
   cases e1
   rw [e0] at e2
   cases e2
   rw [if_pos rfl]
   refine ⟨rfl,c,vs++[u],ec,hc,aN,?_⟩
   rw [List.map_append]
   exact (hl.kp k.app).append (.cons (ru.kp k.app) .nil)
  ·rw [if_neg e]
   have hac:a≠c:=fun z=>by
    have hi:i=i0:=rO h.nd e2 e0 (by rw [h2,z]; exact ec.symm)
    subst hi
    rw [el] at e1
    cases e1
    exact e rfl
   exact ⟨h1,a,us,h2,h3,by rw [aA hac]; exact h4,h5.kp k.app⟩
 ·have:(fA l t ws).map (·.1)=l.map (·.1):=by
   unfold fA
   rw [if_pos (by rw [<-h.has,hv]; rfl),List.map_map]
   refine List.map_congr_left fun x _=>?_
   show (if x.1=t then (x.1,x.2++[ws]) else x).1=x.1
   split <;> rfl
  rw [this]; exact h.nk
theorem BI.ins (h:BI Pr w O P H b l kvs) (hv:iJ kvs (tD t)=none) (ha:H a=none) (dom:∀c,c∈P->∃o,H c=some o) :
  Kp P H (a::P) (upd (upd H a (.lst [])) b (dO Pr w b (kvs++[(tD t,.ref a)])))/\BI Pr w O (a::P) (upd (upd H a (.lst [])) b (dO Pr w b (kvs++[(tD t,.ref a)]))) b (l++[(t,[])]) (kvs++[(tD t,.ref a)]):=by
 have hab:a≠b:=fun z=>by obtain ⟨o,e⟩:=dom b h.mem; rw [<-z,ha] at e; cases e
 have kk:∀d o,d≠b->H d=some o->upd (upd H a (.lst [])) b (dO Pr w b (kvs++[(tD t,.ref a)])) d=some o:=fun d o hd e=>by
  have hda:d≠a:=fun z=>by rw [z,ha] at e; cases e
  rw [aA hd,aA hda]; exact e
 have k:Kp P H (a::P) (upd (upd H a (.lst [])) b (dO Pr w b (kvs++[(tD t,.ref a)]))):=⟨fun d o hd q=>kk d o (fun z=>hd (by rw [z]; exact h.mem)) q,fun d hd=>by
  rcases List.mem_cons.mp hd with z|z
  ·exact .inr (z▸ha)
  ·exact .inl z⟩
 refine ⟨k,JY _ h.mem,aN,?_,?_,?_⟩
 ·refine Paired.snoc (Paired.mapP h.pr fun x y ⟨h1,c,us,h2,h3,h4,h5⟩=>⟨h1,c,us,h2,JY _ h3,kk c _ (fun z=>by have:=h.at'; rw [<-z,h4] at this; cases this) h4,h5.kp k.app⟩) ?_
  exact ⟨rfl,a,[],rfl,JZ,by rw [aA hab,aN],.nil⟩
 ·rw [List.map_append,List.nodup_append]
  refine ⟨h.nd,0x4,fun x hx y hy=>?_⟩
  simp only [List.map_cons,List.map_nil,List.mem_singleton] at hy
  subst hy
  obtain ⟨q,hq,rfl⟩:=List.mem_map.mp hx
  obtain ⟨i,ei⟩:=List.mem_iff_getElem?.mp hq
  obtain ⟨p,_,_,c,us,e1,hc,h4,_⟩:=Paired.get h.pr ei
  intro z
  rw [e1] at z
  cases z
  rw [ha] at h4; cases h4
 ·rw [List.map_append,List.nodup_append]
  refine ⟨h.nk,0x4,fun x hx y hy=>?_⟩
  simp only [List.map_cons,List.map_nil,List.mem_singleton] at hy
  obtain ⟨p,hp,rfl⟩:=List.mem_map.mp hx
  intro z
  rw [hy] at z
  have:jh l t=true:=List.any_eq_true.mpr ⟨p,hp,by simpa using z⟩
  rw [<-h.has,hv] at this
  cases this
theorem zC (h:jh l t=false):fA (l++[(t,[])]) t ws=fA l t ws:=by
 unfold fA
 have h1:jh (l++[(t,[])]) t=true:=by unfold jh; rw [List.any_append]; simp
 rw [if_pos h1,h,List.map_append]
 have h2:(l.map fun x=>if x.1=t then (x.1,x.2++[ws]) else x)=l:=by
  have:∀x∈l,(if x.1=t then (x.1,x.2++[ws]) else x)=x:=fun x hx=>by
   rw [if_neg]
   intro z
   have:jh l t=true:=List.any_eq_true.mpr ⟨x,hx,by simpa using z⟩
   rw [h] at this; cases this
  exact (List.map_congr_left this).trans (List.map_id' l)
 rw [h2]
 simp
theorem BI.same {H':Hp} (h:BI Pr w O P H b l kvs) (s:aD H H'):BI Pr w O P H' b l kvs:=
 ⟨h.mem,s _ _ h.at',Paired.mapP h.pr fun x y ⟨h1,c,us,h2,h3,h4,h5⟩=>⟨h1,c,us,h2,h3,s _ _ h4,h5.kp (.same s)⟩,h.nd,h.nk⟩
theorem BI.told {H0:Hp} (h:BI Pr w O P H b l kvs) (ap:∀a,a∈P->a∉O):RE O [] H0 H (.fz (.dl Pr w l)) (.ref b):=by
 refine ⟨b,b,rfl,ap b h.mem,kvs,h.at',Paired.mapP h.pr fun x y ⟨h1,c,us,h2,h3,h4,h5⟩=>⟨h1,?_⟩⟩
 rw [h2]
 exact .lst (ap c h3) h4 (h5.kp (.sub fun d hd=>J2 _ hd))
end
section
variable {X:Cx} {E:XK} {o e f ep:Expr} {apos cpos a1 a2 c1 c2 pos q:Pos} {td ty tx:TE} {fp:DS->M DV}
noncomputable def Jq (P:Program) (w:World) (td ty tx:TE):TE:=fun σ H Q=>td σ H fun x H1=>∃b kvs0,x=.ref b/\H1 b=some (dO P w b kvs0)/\ty σ H1 fun y H2=>tx σ H2 fun z H3=>∃kvs k kb,H3 b=some (dO P w b kvs)/\y=.ref kb/\cQ k=true/\k.depth<=6/\RpT (tv H3) k (.ref kb)/\kvs.length<sizeLine /\
 (∀v,iJ kvs k=some v->Q v H3)/\(iJ kvs k=none->Q z (upd H3 b (dO P w b (kvs++[(k,z)]))))
theorem HW (hu:X.A.units+20<cLine) (ho:PE X o td) (he:PE X e ty) (hf:PE X f tx)
  (base:attributeBase o "setdefault" X.env (eval o X.env)=eval o X.env:=by rfl)
  (few:((backTo cpos (starEach [e,f] X.env)).all (fun x=>!x.1)&&(backToKw cpos (keywordEach [] X.env)).all (fun x=>x.1.isSome)
   && decide (([e,f]:List Expr).length+([]:List Keyword).length+(if ([]:List Keyword).isEmpty then 0 else 1)<30))=true:=by rfl)
  (line:(apos.endLine==cpos.line)=true:=by rfl) (trees:backTo cpos (starEach [e,f] X.env)=[(false,eval e X.env),(false,eval f X.env)]:=by rfl) :
  PE X (.Call (.Attribute o "setdefault" apos) [e,f] [] cpos) (Jq X.prog X.w td ty tx):=by
 intro pins s σ H Q I h
 refine wpAny_Call_method base few line PySem.F.plainAttrs_dict PySem.F.slot_dict_setdefault PySem.F.type_dict_setdefault (bS (ho pins s σ H _ I h) fun u s1 zz=>?_)
 obtain ⟨x,H1,I1,rx,b,kvs0,ex,eb,q1⟩:=zz
 subst ex
 obtain rfl:u=Value.ref b:=rx
 have x0:=xw I1.hok eb
 refine ⟨x0.type.1,fun b' z=>?_,?_⟩
 ·cases z; exact x0.type.2
 rw [trees]
 refine Calls.callWith_builtin rfl (Calls.evalArgs_plain (Calls.spliced_cons (bS (he pins s1 σ H1 _ I1 q1) fun iv s2 ⟨y,H2,I2,ry,q2⟩=>
  Calls.spliced_cons (bS (hf pins s2 σ H2 _ I2 q2) fun fv s3 ⟨z,H3,I3,rz,kvs,k,kb,e3,ey,k1,k2,k3,hl,q3,q4⟩=>Calls.spliced_nil ?_))))
 subst ey
 obtain rfl:iv=Value.ref kb:=ry
 exact tX hu I3 e3 k1 k2 k3 rz hl (fun v w' s4 ev I4 rv=>⟨v,H3,I4,rv,q3 v ev⟩) fun ev s4 I4=>⟨z,_,I4,rz,q4 ev⟩
noncomputable def Fx (P:Program) (w:World) (i j:Nat) (fp:DS->M DV):TS:=fun D σ H=>∃O P' δ b t ws l kvs,RS O P' H σ δ/\(∀(i:Nat) (x:DV),δ[i]?=some (some x)->∃d,x=.d d)/\σ[i]?=some (some (.ref b))/\δ[j]?=some (some (.d (tD t)))/\fp δ=some (.ok (.d (wD ws)))/\BI P w O P' H b l kvs/\kvs.length<1000000/\(∀p∈l,p.2.length<1000000) /\
 ∀P2 H2 kvs2,Kp P' H P2 H2->RS O P2 H2 σ δ->BI P w O P2 H2 b (fA l t ws) kvs2->D.nx σ H2
theorem F9 {i j:Nat} (h1:PE X (.Call (.Attribute (.Call (.Attribute o "setdefault" a1) [e,.List [] q] [] c1) "append" a2) [ep] [] c2) (Js X.K "list" xO (Jq X.prog X.w (gY i) (gY j) (Hj Fy)) (E3 (tE E fp) Fy)))
  (hs:swapsWith (.Call (.Attribute (.Call (.Attribute o "setdefault" a1) [e,.List [] q] [] c1) "append" a2) [ep] [] c2) none pos.line X.env=pure false:=by rfl) :
  PS X (.Expr (.Call (.Attribute (.Call (.Attribute o "setdefault" a1) [e,.List [] q] [] c1) "append" a2) [ep] [] c2) pos) (Fx X.prog X.w i j fp):=PS.mono (lY h1 hs) fun D σ H h=>by
 obtain ⟨O,P,δ,b,t,ws,l,kvs,rs,hd,eb,et,ef,bi,hl1,hl2,nx⟩:=h
 obtain ⟨tv',etv,_,rt'⟩:=rs.at' j _ et
 obtain ⟨kb,rfl,hT⟩:=RpT.of (show Rp (P++O) H (tD t) tv' from rt')
 have domP:∀c,c∈P->∃o,H c=some o:=fun c hc=>rs.dom c (J3 _ hc)
 have sl:∀n,n<1000000->n<sizeLine:=fun n h=>Nat.lt_of_lt_of_le h (by rw [sizeLine_eq]; decide)
 refine ⟨.ref b,eb,b,kvs,rfl,bi.at',.ref kb,etv,Nat.zero_le _,fun a ha=>⟨kvs,tD t,kb,a9 ha _ _ bi.at',rfl,rfl,Nat.le_of_lt (by decide:1<6),hT.mono (fun c xs q=>a9 ha _ _ q),sl _ hl1,fun v ev=>?_,fun ev=>?_⟩⟩
 ·have s0:aD H (upd H a (.lst [])):=a9 ha
  obtain ⟨c,vs,ts,rfl,hc,cP,hm,hlen⟩:=(bi.same s0).look ev
  refine ⟨.inl ⟨rfl,_,gg.of hc⟩,O,P,δ,_,rs.same s0,ef,fun u H2 s2 ru=>?_⟩
  have sH:=s0.trans s2
  obtain ⟨c',vs',e1,hc',_,k,bi2⟩:=(bi.same sH).old (ws:=ws) (u:=u) ev ru
  cases e1
  have e2:=s2 _ _ hc
  rw [hc'] at e2
  cases e2
  refine ⟨c,vs,u,rfl,rfl,hc',sl _ (by rw [hlen]; exact hl2 _ hm),nx P _ kvs ((Kp.same sH).trans k) ?_ bi2⟩
  refine (rs.same sH).moved hd k (fun d hd'=>?_) rs.apart
  by_cases z:d=c
  ·exact ⟨_,by rw [z]; exact aN⟩
  ·obtain ⟨ob,q⟩:=domP d hd'
   exact ⟨ob,by rw [aA z]; exact sH _ _ q⟩
 ·obtain ⟨k1,bi1⟩:=bi.ins (t:=t) ev ha domP
  have eh:upd (upd H a (.lst [])) b (dO X.prog X.w b (kvs++[(tD t,.ref a)])) a=some (.lst []):=by
   have hab:a≠b:=fun z=>by obtain ⟨o,e⟩:=domP b bi.mem; rw [<-z,ha] at e; cases e
   rw [aA hab,aN]
  have aO:a∉O:=fun z=>by obtain ⟨ob,q⟩:=rs.dom a (J2 _ z); rw [ha] at q; cases q
  have dom1:∀d,d∈a::P->∃o,upd (upd H a (.lst [])) b (dO X.prog X.w b (kvs++[(tD t,.ref a)])) d=some o:=fun d hd'=>by
   by_cases zb:d=b
   ·exact ⟨_,by rw [zb]; exact aN⟩
   ·rcases List.mem_cons.mp hd' with z|z
    ·exact ⟨_,by rw [z]; exact eh⟩
    ·obtain ⟨ob,q⟩:=domP d z
     have hda:d≠a:=fun z=>by rw [z,ha] at q; cases q
     exact ⟨ob,by rw [aA zb,aA hda]; exact q⟩
  have ap1:∀d,d∈a::P->d∉O:=fun d hd'=>by
   rcases List.mem_cons.mp hd' with z|z
   ·rw [z]; exact aO
   ·exact rs.apart d z
  have rs1:=rs.moved hd k1 dom1 ap1
  have ev1:iJ (kvs++[(tD t,V.ref a)]) (tD t)=some (.ref a):=by
   unfold iJ at ev ⊢
   rw [List.find?_append]
   cases e2:kvs.find? fun x=>decide (x.1=tD t) with
   |none=>simp
   |some p=>rw [e2] at ev; cases ev
  refine ⟨.inl ⟨rfl,_,gg.of eh⟩,O,a::P,δ,_,rs1,ef,fun u H2 s2 ru=>?_⟩
  obtain ⟨c',vs',e1,hc',_,k,bi2⟩:=(bi1.same s2).old (ws:=ws) (u:=u) ev1 ru
  cases e1
  have e2:=s2 _ _ eh
  rw [hc'] at e2
  cases e2
  rw [zC (by rw [<-bi.has,ev]; rfl)] at bi2
  refine ⟨a,[],u,rfl,rfl,hc',sl 0 0x3,nx (a::P) _ _ ((k1.trans (Kp.same s2)).trans k) ?_ bi2⟩
  refine (rs1.same s2).moved hd k (fun d hd'=>?_) ap1
  by_cases z:d=a
  ·exact ⟨_,by rw [z]; exact aN⟩
  ·obtain ⟨ob,q⟩:=dom1 d hd'
   exact ⟨ob,by rw [aA z]; exact s2 _ _ q⟩
end
section
variable {X:Cx} {E:XK} {pos:Pos}
theorem xU {pins:List (Addr×Obj)} {σ:St} {H:Hp} {s:Shared} (I:Inv X pins σ H s):(s.heap.objs.size==sysModules)=false:=
 beq_eq_false_iff_ne.mpr (Ne.symm (Nat.ne_of_lt (Nat.lt_trans 0x3 (I.mod.glob.keeps I.bk).lt)))
theorem BQ {P:Program} {w:World} {T:Addr->List V->Prop} {h:Heap} (hb:(h.objs.size==sysModules)=false):DX P w h.objs.size [] T (h.push { cls:=.type "dict",data:=.dict #[] }):=
 ⟨hb,Nat.zero_le _,[],.nil,_,#[],0,Heap.get?_push_size _ rfl,⟨rfl,rfl,rfl⟩,rfl,rfl,List.nodup_nil⟩
theorem Cp:PE X (.Dict [] [] pos) (fun σ H Q=>∀p,H p=none->Q (.ref p) (upd H p (dO X.prog X.w p []))):=fun pins s σ H Q I h=>
 wpAny_Dict_empty ⟨.ref s.heap.objs.size,_,I.laid (a:=s.heap.objs.size) (t':=s.toks) (fun _ _ q=>J0 _ q) (J5 _) (EZ (BQ (xU I))),rfl,h _ (I.hok.fresh (J5 _))⟩
theorem Dm {f:PyData->Option Int} {U:List PyData}:PE X (.Dict [] [] pos) (fun σ H Q=>∀p,H p=none->Q (.ref p) (upd H p (mO X.prog X.w p f U))):=fun pins s σ H Q I h=>
 wpAny_Dict_empty ⟨.ref s.heap.objs.size,_,I.laid (a:=s.heap.objs.size) (t':=s.toks) (fun _ _ q=>J0 _ q) (J5 _) (EI (kvs:=[]) (fun _ h=>nomatch h) (BQ (xU I))),rfl,h _ (I.hok.fresh (J5 _))⟩
end
noncomputable def iC (l:By) (ws:List dM):By:=(ws.take 3).foldl (fun l t=>fA l t ws) l
noncomputable def kW (wss:List (List dM)):By:=wss.foldl iC []
noncomputable def E4:D->Option dM
 |.tuple [.int a,.int b]=>some (a,b)
 |_=>none
noncomputable def bW:List D->Option (List dM)
 |[]=>some []
 |x::r=>match E4 x,bW r with
  |some t,some ts=>some (t::ts)
  |_,_=>none
noncomputable def Bi:D->Option (List dM)
 |.tuple [_,.list ts]=>bW ts
 |_=>none
noncomputable def fY:List D->Option (List (List dM))
 |[]=>some []
 |x::r=>match Bi x,fY r with
  |some t,some ts=>some (t::ts)
  |_,_=>none
theorem eE (ts:List dM):bW (ts.map tD)=some ts:=by
 induction ts with
 |nil=>rfl
 |cons t r ih=>rw [List.map_cons,bW,ih]; rfl
theorem ig:∀{xs:List D} {ts:List dM},bW xs=some ts->xs=ts.map tD
 |[],ts,h=>by cases h; rfl
 |x::r,ts,h=>by
  unfold bW at h
  split at h
  ·rename_i t us h1 h2
   cases h
   rw [ig h2,List.map_cons]
   congr 1
   unfold E4 at h1
   split at h1
   ·cases h1; rfl
   ·cases h1
  ·cases h
theorem pX:∀{xs:List D} {wss:List (List dM)},fY xs=some wss->wss.length=xs.length/\∀(i:Nat) (d:D),xs[i]?=some d->∃m ws,d=.tuple [m,wD ws]/\wss[i]?=some ws
 |[],wss,h=>by cases h; exact ⟨rfl,fun i d h=>by simp at h⟩
 |x::r,wss,h=>by
  unfold fY at h
  split at h
  ·rename_i t us h1 h2
   cases h
   obtain ⟨hl,hg⟩:=pX h2
   refine ⟨by simp [hl],fun i d hd=>?_⟩
   cases i with
   |zero=>
    simp at hd
    subst hd
    unfold Bi at h1
    split at h1
    ·rename_i m ts
     exact ⟨m,t,by rw [ig h1]; rfl,rfl⟩
    ·cases h1
   |succ i=>simpa using hg i d (by simpa using hd)
  ·cases h
theorem Ih (ts:List D):lU ts none (some 3)=ts.take 3:=by
 unfold lU HT.sIx
 simp
 try lia
noncomputable def ud (l:By) (n:Nat):Prop:=l.length<=n/\∀p∈l,p.2.length<=n
theorem ud.add {l:By} {n:Nat} (h:ud l n) (t:dM) (ws:List dM):ud (fA l t ws) (n+1):=by
 unfold fA
 split
 ·refine ⟨by rw [List.length_map]; exact Nat.le_succ_of_le h.1,fun p hp=>?_⟩
  obtain ⟨q,hq,rfl⟩:=List.mem_map.mp hp
  have:=h.2 q hq
  split
  ·simp; lia
  ·lia
 ·refine ⟨by have:=h.1; simp; lia,fun p hp=>?_⟩
  rcases List.mem_append.mp hp with hp|hp
  ·exact Nat.le_succ_of_le (h.2 p hp)
  ·simp at hp; subst hp; simp
theorem RS.free {O P:List Addr} {H:Hp} {σ:St} {δ:DS} {i:Nat} {v:Option V} (r:RS O P H σ δ) (h:δ[i]?=some none):RS O P H (σ.set i v) δ:=by
 have ne:∀(j:Nat) (x:DV),δ[j]?=some (some x)->i≠j:=fun j x e z=>by rw [z,e] at h; cases h
 refine ⟨by rw [List.length_set]; exact r.len,r.dom,r.apart,fun j x e=>?_,fun j m x y v w a e1 e2 e3 e4 o1 o2=>?_⟩
 ·obtain ⟨u,e1,e2⟩:=r.at' j x e
  exact ⟨u,by rw [List.getElem?_set_ne (ne j x e)]; exact e1,e2⟩
 ·rw [List.getElem?_set_ne (ne j x e1)] at e3
  rw [List.getElem?_set_ne (ne m y e2)] at e4
  exact r.one j m x y v w a e1 e2 e3 e4 o1 o2
noncomputable def jq (a c d:Option D):DS:=[a.map .d,none,c.map .d,d.map .d]
theorem yi (a c d:Option D):∀(i:Nat) (x:DV),(jq a c d)[i]?=some (some x)->∃e,x=.d e:=by
 intro i x h
 unfold jq at h
 match i,h with
 |0,h=>cases a <;> simp at h; exact ⟨_,h.symm⟩
 |1,h=>simp at h
 |2,h=>cases c <;> simp at h; exact ⟨_,h.symm⟩
 |3,h=>cases d <;> simp at h; exact ⟨_,h.symm⟩
 |i+4,h=>simp at h
section
variable {X:Cx} {st1 st3:Stmt} {tg1 tg2 it1 it2 r:Expr} {p1 p2 p3:Pos} {fi1 fi2:DS->M (List D)} {fp:DS->M DV}
noncomputable def JJ (P:Program) (w:World):TS:=fun D σ H=>∃O xs wss,RS O [] H σ (jq (some (.list xs)) none none)/\fY xs=some wss/\wss.length<=1000/\∀v H',aD H H'->RE O [] H H' (.fz (.dl P w (kW wss))) v->D.rt v H'
theorem Bu (hp:PassesOwn (model X.prog X.w) X.A X.env X.xe) (hc:X.calm=true) (hi2:Ce X E0 tg2 it2 fi2) (hg2:PG X tg2 (oE 3)) (h3:PS X st3 (Fx X.prog X.w 1 3 fp)) (hs2:∀x,foldedSetIterable it2 X.env x=pure x)
  (e2:∀a c m ts,fi2 (jq a (some (.tuple [m,.list ts])) c)=rt (ts.take 3)) (e3:∀a c m ts,fp (jq a (some (.tuple [m,.list ts])) c)=rt (.d (.list ts))) :
  PS X (.For tg2 it2 [st3] [] p2) (fun D σ H=>∃O P b l kvs a m ws c n,RS O P H σ (jq a (some (.tuple [m,wD ws])) c)/\σ[1]?=some (some (.ref b))/\BI X.prog X.w O P H b l kvs/\ud l n/\n+3<1000000 /\
   ∀σ' P' H' kvs' c',Kp P H P' H'->RS O P' H' σ' (jq a (some (.tuple [m,wD ws])) c')->σ'[1]?=some (some (.ref b))->BI X.prog X.w O P' H' b (iC l ws) kvs'->ud (iC l ws) (n+3)->D.nx σ' H'):=
 PS.mono (wx hp hc hi2 hg2 (fS h3) hs2) fun D σ H h=>by
  obtain ⟨O,P,b,l,kvs,a,m,ws,c,n,rs,eb,bi,fw,hn,nx⟩:=h
  have el:fi2 (jq a (some (.tuple [m,wD ws])) c)=some (.ok ((ws.map tD).take 3)):=e2 a c m (ws.map tD)
  refine ⟨O,P,_,_,rs,el,fun J H1 s1 it=>?_⟩
  have hlen:((ws.map tD).take 3).length<=3:=by rw [List.length_take]; exact Nat.min_le_left _ _
  refine ⟨fun i k σ' H'=>k=((ws.map tD).take 3).length-i/\i<=((ws.map tD).take 3).length/\∃P' l' kvs' c',Kp P H1 P' H'/\RS O P' H' σ' (jq a (some (.tuple [m,wD ws])) c')/\σ'[1]?=some (some (.ref b))/\BI X.prog X.w O P' H' b l' kvs'/\ud l' (n+i)/\((ws.take 3).drop i).foldl (fun l t=>fA l t ws) l'=iC l ws,⟨_,rfl,Nat.zero_le _,P,l,kvs,c,.refl,rs.same s1,eb,bi.same s1,fw,rfl⟩,?_⟩
  rintro i k σ' H' ⟨rfl,hi,P',l',kvs',c',kp,rs',eb',bi',fw',fl⟩
  by_cases hlt:i<((ws.map tD).take 3).length
  ·have hw:i<(ws.take 3).length:=by rw [<-List.map_take,List.length_map] at hlt; exact hlt
   obtain ⟨t,et⟩:∃t,(ws.take 3)[i]?=some t:=⟨_,List.getElem?_eq_getElem hw⟩
   have etd:((ws.map tD).take 3)[i]?=some (tD t):=by rw [<-List.map_take,List.getElem?_map,et]; rfl
   obtain ⟨go,yl⟩:=(it i P' H' kp).1 (tD t) etd
   refine .inr ⟨go,fun σ2 H2=>∃P2 l2 kvs2 c2,Kp P H1 P2 H2/\RS O P2 H2 σ2 (jq a (some (.tuple [m,wD ws])) c2)/\σ2[1]?=some (some (.ref b))/\BI X.prog X.w O P2 H2 b l2 kvs2/\ud l2 (n+(i+1))/\((ws.take 3).drop (i+1)).foldl (fun l t=>fA l t ws) l2=iC l ws,fun σ2 H2 h=>⟨_,0x1,rfl,hlt,h⟩,fun x H2 hy=>?_⟩
   obtain ⟨rfl,rx⟩:=yl x H2 hy
   have rs2:RS O P' H2 (σ'.set 3 (some x)) (jq a (some (.tuple [m,wD ws])) (some (tD t))):=rs'.set (i:=3) (x:=.d (tD t)) rx (fun _=>nofun) rfl
   refine ⟨O,P',_,b,t,ws,l',kvs',rs2,yi _ _ _,by rw [List.getElem?_set_ne 0x3]; exact eb',rfl,e3 _ _ _ _,bi',?_,fun p hp=>?_,fun P2 H3 kvs2 k2 rs3 bi3=>⟨P2,_,kvs2,some (tD t),kp.trans k2,rs3,by rw [List.getElem?_set_ne 0x3]; exact eb',bi3,fw'.add t ws,?_⟩⟩
   ·have h1:=Paired.length bi'.pr
    have h2:=fw'.1
    lia
   ·have:=fw'.2 p hp; lia
   ·rw [<-fl,List.drop_eq_getElem_cons hw,List.foldl_cons]
    have:(ws.take 3)[i]=t:=by rw [List.getElem?_eq_getElem hw] at et; exact Option.some.inj et
    rw [this]
  ·have hin:i=((ws.map tD).take 3).length:=by lia
   have hd:(ws.take 3).drop i=[]:=List.drop_eq_nil_of_le (by rw [hin,<-List.map_take,List.length_map]; exact J5 _)
   rw [hd] at fl
   have fl':l'=iC l ws:=fl
   rw [fl'] at bi' fw'
   exact .inl ⟨(it _ P' H' kp).2 0x1,nx σ' P' H' kvs' c' ((Kp.same s1).trans kp) rs' eb' bi' ⟨by have:=fw'.1; lia,fun p hp=>by have:=fw'.2 p hp; lia⟩⟩
theorem Dg (hp:PassesOwn (model X.prog X.w) X.A X.env X.xe) (hc:X.calm=true) (h1:PS X st1 (fun D σ H=>∀p,H p=none->D.nx (σ.set 1 (some (.ref p))) (upd H p (dO X.prog X.w p [])))) (hi1:Ce X E0 tg1 it1 fi1) (hg1:PG X tg1 (oE 2)) (hs1:∀x,foldedSetIterable it1 X.env x=pure x)
  (hi2:Ce X E0 tg2 it2 fi2) (hg2:PG X tg2 (oE 3)) (h3:PS X st3 (Fx X.prog X.w 1 3 fp)) (hs2:∀x,foldedSetIterable it2 X.env x=pure x) (hr:PE X r (gY 1))
  (e1:∀xs c d,fi1 (jq (some (.list xs)) c d)=rt xs) (e2:∀a c m ts,fi2 (jq a (some (.tuple [m,.list ts])) c)=rt (ts.take 3)) (e3:∀a c m ts,fp (jq a (some (.tuple [m,.list ts])) c)=rt (.d (.list ts))) :
  qy X [st1,.For tg1 it1 [.For tg2 it2 [st3] [] p2] [] p1,.Return (some r) p3] (JJ X.prog X.w):=
 qy.mono (fX h1 (fX (wx hp hc hi1 hg1 (fS (Bu hp hc hi2 hg2 h3 hs2 e2 e3)) hs1) (fS (wc hr)))) fun D σ H h=>by
  obtain ⟨O,xs,wss,rs,ep,hz,q⟩:=h
  obtain ⟨hlen,hget⟩:=pX ep
  intro b hb
  have k0:Kp [] H [b] (upd H b (dO X.prog X.w b [])):=⟨fun a o _ e=>a9 hb a o e,fun a ha=>by simp at ha; subst ha; exact .inr hb⟩
  have ap0:∀a,a∈[b]->a∉O:=fun a ha z=>by
   simp at ha; subst ha
   obtain ⟨o,e⟩:=rs.dom a z
   rw [hb] at e; cases e
  have rs0:RS O [b] (upd H b (dO X.prog X.w b [])) (σ.set 1 (some (.ref b))) (jq (some (.list xs)) none none):=(rs.moved (yi _ _ _) k0 (fun a ha=>by simp at ha; subst ha; exact ⟨_,aN⟩) ap0).free rfl
  have hl1:1<σ.length:=by rw [rs.len]; show 1<4; decide
  refine ⟨O,[b],_,_,rs0,e1 xs none none,fun J H1 s1 it=>?_⟩
  refine ⟨fun i k σ' H'=>k=xs.length-i/\i<=xs.length/\∃P' l kvs c d,Kp [b] H1 P' H'/\RS O P' H' σ' (jq (some (.list xs)) c d)/\σ'[1]?=some (some (.ref b))/\BI X.prog X.w O P' H' b l kvs/\ud l (3*i)/\(wss.drop i).foldl iC l=kW wss,
   ⟨_,rfl,Nat.zero_le _,[b],[],[],none,none,.refl,rs0.same s1,by rw [List.getElem?_set_self hl1],⟨JZ,s1 _ _ aN,.nil,List.nodup_nil,List.nodup_nil⟩,⟨Nat.zero_le _,fun _ h=>nomatch h⟩,rfl⟩,?_⟩
  rintro i k σ' H' ⟨rfl,hi,P',l,kvs,c,d,kp,rs',eb',bi',fw',fl⟩
  by_cases hlt:i<xs.length
  ·obtain ⟨m,ws,ed,ew⟩:=hget i xs[i] (List.getElem?_eq_getElem hlt)
   obtain ⟨go,yl⟩:=(it i P' H' kp).1 xs[i] (List.getElem?_eq_getElem hlt)
   refine .inr ⟨go,fun σ2 H2=>∃P2 l2 kvs2 c2 d2,Kp [b] H1 P2 H2/\RS O P2 H2 σ2 (jq (some (.list xs)) c2 d2)/\σ2[1]?=some (some (.ref b))/\BI X.prog X.w O P2 H2 b l2 kvs2/\ud l2 (3*(i+1))/\(wss.drop (i+1)).foldl iC l2=kW wss,fun σ2 H2 h=>⟨_,0x1,rfl,hlt,h⟩,fun x H2 hy=>?_⟩
   obtain ⟨rfl,rx⟩:=yl x H2 hy
   rw [ed] at rx
   have rs2:RS O P' H2 (σ'.set 2 (some x)) (jq (some (.list xs)) (some (.tuple [m,wD ws])) d):=rs'.set (i:=2) (x:=.d (.tuple [m,wD ws])) rx (fun _=>nofun) rfl
   refine ⟨O,P',b,l,kvs,_,m,ws,d,3*i,rs2,by rw [List.getElem?_set_ne 0x3]; exact eb',bi',fw',0x1,fun σ3 P3 H3 kvs3 c3 k3 rs3 eb3 bi3 fw3=>⟨P3,_,kvs3,_,c3,kp.trans k3,rs3,eb3,bi3,fw3,?_⟩⟩
   have hw:i<wss.length:=by lia
   rw [<-fl,List.drop_eq_getElem_cons hw,List.foldl_cons]
   have:wss[i]=ws:=by rw [List.getElem?_eq_getElem hw] at ew; exact Option.some.inj ew
   rw [this]
  ·have hin:i=xs.length:=by lia
   have hd:wss.drop i=[]:=List.drop_eq_nil_of_le 0x1
   rw [hd] at fl
   have fl':l=kW wss:=fl
   rw [fl'] at bi'
   refine .inl ⟨(it _ P' H' kp).2 0x1,.ref b,eb',?_⟩
   have kk:=(k0.trans (Kp.same s1)).trans kp
   exact q _ H' (fun a o e=>kk.keep a o 0x4 e) (bi'.told rs'.apart)
end
noncomputable def IY (xs:List DV):M DV:=match xs with
 |[.d (.int i),.new ys]=>rt (.nwt [.int i] ys [])
 |_=>none
noncomputable def z5 (fr:DS->M (List DV)) (δ:DS):M DV:=bd (fr δ) IY
theorem DK {X:Cx} {E:XK} {es:List Expr} {pos:Pos} {k:Nat} {fr:DS->M (List DV)} (h:uS X E es fr):PX X E (.Tuple es k pos) (z5 fr):=PE.mono (vQ h) fun σ H Q q=>lK (g:=fun _=>IY) q fun O P δ xs r vs H1 rs rs1 s1 rx e q=>by
 unfold IY at e
 split at e
 ·rename_i i ys
  cases e
  cases rx with
  |@cons _ v1 _ _ r1 rr=>
   cases rr with
   |@cons _ v2 _ _ r2 rr=>
    cases rr
    have r1':Rp (P++O) H1 (.int i) v1:=r1
    cases r1'
    obtain ⟨a,us,rfl,hn,ha,l⟩:=r2
    refine ⟨eW (by show 2<=1000000; decide),fun t ht=>q _ _ (a9 ht) ⟨t,a,[.int i],us,[],rfl,fun hm=>?_,aN,hn,a9 ht _ _ ha,.cons (.int i) .nil,l.kp (.same (a9 ht)),.nil⟩⟩
    rcases List.mem_cons.mp hm with z|z
    ·rw [z,ha] at ht; cases ht
    ·obtain ⟨o,e⟩:=rs1.dom t z
     rw [ht] at e; cases e
 ·cases e
noncomputable def ID (Pr:Program) (w:World) (C:Addr) (f:PyData->Option Int) (U:List PyData):Sp:=fun vs H Q _=>∃p dx v O xs wss,vs=[.ref p,v]/\H p=some (.ins C dx [])/\p∈O/\(∀a,a∈O->∃o,H a=some o)/\Rp O H (.list xs) v/\fY xs=some wss/\wss.length<=1000 /\
 ∀H' b k kvs,(∀a o,a≠p->H a=some o->H' a=some o)->H' p=some (.ins C dx [("by_least",.ref b),("known",.ref k)])->b∉O->H' b=some (dO Pr w b kvs)->Bc O H' (kW wss) kvs->k∉O->H' k=some (mO Pr w k f U)->Q .non H'
noncomputable def zJ (Pr:Program) (w:World) (xs:List DV):M DV:=match xs with
 |[.d (.list ps)]=>bd (op (fY ps)) fun wss=>if wss.length<=1000 then rt (.fz (.dl Pr w (kW wss))) else none
 |_=>none
noncomputable def EB (Pr:Program) (w:World) (C:Addr) (f:PyData->Option Int) (U:List PyData) (xs:List DV):M DV:=match xs with
 |[x]=>match vx x with
  |some (.list ps)=>bd (op (fY ps)) fun wss=>if wss.length<=1000 then rt (.fz (.tb Pr w C (kW wss) f U)) else none
  |_=>none
 |_=>none
structure HsT (P:Program) (w:World) (K:Kd) (mg:Str->Option Value) (base:Heap) (x:Str) (C:Addr) (k:Nat) (f:PyData->Option Int) (U:List PyData):Prop where
 ex:∃g fd ps,Mk K C g/\FnOk P w K mg base so k g fd ps (ID P w C f U)/\gh K fd ps []/\mg x=some (.ref C)
section
variable {X:Cx} {E:XK} {e:Expr} {es:List Expr} {pos p:Pos} {fr:DS->M (List DV)}
theorem wg {x:Str} {C:Addr} {k:Nat} {f:PyData->Option Int} {U:List PyData} (h:HsT X.prog X.w X.K X.mg X.base x C k f U) (hr:Room (k+1) X.A) (ha:uS X E (e::es) fr) (hg:Gl X x:=by rfl) (hdb:(x==("__debug__" : Str))=false:=by decide)
  (he:starEach (e::es) X.env=(false,eval e X.env)::starEach es X.env:=by rfl) (hpl:(backTo pos (starEach es X.env)).any (·.1)=false:=by rfl):PX X E (.Call (.Name x p) (e::es) [] pos) (aL (EB X.prog X.w C f U) fr):=by
 obtain ⟨g,fd,ps,hM,hF,hb,hm⟩:=h.ex
 refine PE.mono (xI (E:=E0) hM hF hr hg hm hb .nil (fun _ _ _ _ _ _ _ h=>h.elim) ha hdb he hpl) fun σ H Q q=>lK (g:=fun _=>EB X.prog X.w C f U) q fun O P δ xs r vs H1 rs rs1 s1 rx e q=>?_
 unfold EB at e
 split at e
 ·rename_i y
  split at e
  ·rename_i ps hy
   obtain ⟨wss,e1,e2⟩:=bt e
   split at e2
   ·rename_i hl
    cases e2
    cases rx with
    |@cons _ v _ _ r1 rr=>
     cases rr
     have rd:=r1.data rs.dom hy
     intro x dx nx ndx ne
     have s2:aD H1 (upd (upd H1 dx (.own x)) x (.ins C dx [])):=fun b o q=>by rw [aA (bF q nx),aA (bF q ndx)]; exact q
     have k2:Kp (P++O) H1 (x::dx::(P++O)) (upd (upd H1 dx (.own x)) x (.ins C dx [])):=⟨fun a o _ e=>s2 a o e,fun a ha=>by
      rcases List.mem_cons.mp ha with z|ha
      ·exact .inr (z▸nx)
      ·rcases List.mem_cons.mp ha with z|z
       ·exact .inr (z▸ndx)
       ·exact .inl z⟩
     refine ⟨x,dx,v,x::dx::(P++O),ps,wss,rfl,aN,JZ,fun a ha=>?_,rd.kp k2,e1,hl,fun H' b k kvs hk hp hb eb hby hkO ek=>⟨rfl,q _ H' (fun a o e=>?_) ?_⟩⟩
     ·rcases List.mem_cons.mp ha with z|ha
      ·exact ⟨_,by rw [z]; exact aN⟩
      ·rcases List.mem_cons.mp ha with z|z
       ·exact ⟨_,by rw [z,aA ne,aN]⟩
       ·obtain ⟨o,e⟩:=rs1.dom a z
        exact ⟨o,s2 a o e⟩
     ·exact hk a o (bF e nx) (s2 a o e)
     ·have sub:∀a,a∈P++O->a∈x::dx::(P++O):=fun a ha=>JY _ (JY _ ha)
      refine ⟨x,dx,rfl,fun z=>?_,b,k,kvs,hp,fun z=>hb (sub _ z),eb,hby.kp (.sub sub),fun z=>hkO (sub _ z),ek⟩
      obtain ⟨o,e⟩:=rs1.dom x z
      rw [nx] at e; cases e
   ·cases e2
  ·cases e
 ·cases e
end
theorem zq {X:Cx} {C:Addr} {f:PyData->Option Int} {U:List PyData} {fv:DS->M DV} {vs:List V} {H:Hp} {Q:VK} (c:Cls X.K C) (n1:dU X.K C "by_least") (n2:dU X.K C "known") (hsp:ID X.prog X.w C f U vs H Q E0)
  (ev:∀xs wss,fY xs=some wss->wss.length<=1000->fv [none,some (.d (.list xs))]=rt (.fz (.dl X.prog X.w (kW wss)))) :
  HD (F8 X.K (gY 0) (tE E0 fv) "by_least") (F8 X.K (gY 0) (fun σ H Q=>∀p,H p=none->Q (.ref p) (upd H p (mO X.prog X.w p f U))) "known") { nx:=fun _ H'=>Q .non H',rt:=Q } (vs.map some) H:=by
 obtain ⟨p,dx,v,O,xs,wss,rfl,hp,hpO,dom,rd,ep,hl,q⟩:=hsp
 have rs:RS O [] H [some (.ref p),some v] [none,some (.d (.list xs))]:=by
  refine ⟨rfl,dom,fun a ha=>(nomatch ha),fun i x h=>?_,fun i j x y v w a h1 h2 h3 h4 o1 o2=>?_⟩
  ·match i with
   |0=>cases h
   |1=>cases h; exact ⟨_,rfl,fun _=>nofun,rd⟩
   |i+2=>simp at h
  ·match i with
   |0=>cases h1
   |1=>cases h1; exact o1.elim
   |i+2=>simp at h1
 refine ⟨O,[],_,_,rs,ev xs wss ep hl,fun u H1 s1 ru=>?_⟩
 obtain ⟨b,_,rfl,hb,kvs,eb,hby⟩:=ru
 have hb':b∉O:=hb
 have hby':Bc O H1 (kW wss) kvs:=hby
 refine ⟨.ref p,rfl,p,C,dx,[],rfl,s1 _ _ hp,c,n1,0x3,fun k hk=>?_⟩
 have hkp:k≠p:=fun z=>by rw [z,aN] at hk; cases hk
 have hk1:H1 k=none:=by rw [aA hkp] at hk; exact hk
 refine ⟨.ref p,rfl,p,C,dx,_,rfl,by rw [aA (Ne.symm hkp),aN],c,n2,by show 1<1000; decide,?_⟩
 have hkb:b≠k:=fun z=>by rw [z,hk1] at eb; cases eb
 have hpb:b≠p:=fun z=>by have:=s1 _ _ hp; rw [z,this] at eb; cases eb
 have kk:∀a o,a≠p->H1 a=some o->upd (upd (upd H1 p (.ins C dx (gk "by_least" (.ref b) []))) k (mO X.prog X.w k f U)) p (.ins C dx (gk "known" (.ref k) (gk "by_least" (.ref b) []))) a=some o:=fun a o ha e=>by
  rw [aA ha,aA (bF e hk1),aA ha]; exact e
 refine q _ b k kvs (fun a o ha e=>kk a o ha (s1 _ _ e)) (by rw [aN,EF 0x3]) hb' (kk b _ hpb eb) (hby'.kp ⟨fun a o ha e=>kk a o (fun z=>ha (by rw [z]; exact hpO)) e,fun a ha=>.inl ha⟩) (fun z=>?_) (by rw [aA hkp,aN])
 obtain ⟨o,e⟩:=dom k z
 rw [s1 _ _ e] at hk1; cases hk1
end L3
namespace LW
open PySem PySem.Spec L2 L3
noncomputable abbrev Tl:=Int×Int
theorem tR (ps:List Tl) (p:Tl):iK ps p=((ps.count p:Nat):Int):=by
 unfold iK
 rw [List.countP_map,List.count_eq_countP]
 congr 1
 refine List.countP_congr fun q _=>?_
 show (PyData.eqv (pr q) (pr p))=true↔_
 rw [lz]
 simp
theorem sm (a b:Tl->Int):∀ks:List Tl,(ks.map fun p=>a p+b p).sum=(ks.map a).sum+(ks.map b).sum
 |[]=>rfl
 |k::r=>by simp only [List.map_cons,List.sum_cons]; rw [sm a b r]; lia
theorem oN (a:Tl->Int):∀ks:List Tl,(∀p∈ks,a p=0)->(ks.map a).sum=0
 |[],_=>rfl
 |k::r,h=>by
  simp only [List.map_cons,List.sum_cons]
  rw [h k JZ,oN a r fun p hp=>h p (JY _ hp)]
  rfl
theorem yb (f:Tl->Int) (x:Tl):∀ks:List Tl,ks.Nodup->x∈ks->(ks.map fun p=>(if x=p then f p else 0)).sum=f x
 |[],_,h=>nomatch h
 |k::r,hn,h=>by
  have hn':=List.nodup_cons.mp hn
  simp only [List.map_cons,List.sum_cons]
  by_cases hk:x=k
  ·subst hk
   rw [if_pos rfl,oN _ r fun p hp=>if_neg fun (e:x=p)=>hn'.1 (by rw [e]; exact hp)]
   lia
  ·rw [if_neg hk,yb f x r hn'.2 ((List.mem_cons.mp h).resolve_left hk)]
   lia
theorem C3 (f:Tl->Int) {ks:List Tl} (hn:ks.Nodup):∀L:List Tl,(∀x∈L,x∈ks)->(L.map f).sum=(ks.map fun p=>(L.count p:Int)*f p).sum
 |[],_=>(oN _ ks fun p _=>0x4).symm
 |x::r,h=>by
  have ih:=C3 f hn r fun y hy=>h y (JY _ hy)
  have h1:=yb f x ks hn (h x JZ)
  simp only [List.map_cons,List.sum_cons]
  rw [ih,<-h1,<-sm]
  congr 1
  refine List.map_congr_left fun p _=>?_
  rw [List.count_cons]
  by_cases hx:x=p
  ·subst hx
   simp
   rw [Int.add_mul]
   lia
  ·have:(x==p)=false:=by simpa using hx
   rw [if_neg hx,this]
   simp
noncomputable def av (hand need:List Tl):List Tl:=need.foldl (fun r t=>r.erase t) hand
theorem iW (p:Tl):∀(need hand:List Tl),(av hand need).count p=hand.count p-need.count p
 |[],hand=>by unfold av; simp
 |t::need,hand=>by
  show (av (hand.erase t) need).count p=_
  rw [iW p need,List.count_erase,List.count_cons]
  by_cases h:t=p
  ·subst h; simp; lia
  ·have:(t==p)=false:=by simpa using h
   rw [this]; simp
theorem cg:∀(need hand:List Tl),(av hand need).Sublist hand
 |[],hand=>List.Sublist.refl _
 |t::need,hand=>(cg need (hand.erase t)).trans List.erase_sublist
noncomputable def jl (h:List Tl) (j:Int) (w:List Tl):Int:=j-((w.length:Int)-((h.length:Int)-((av h w).length:Int)))
noncomputable def g6 (h:List Tl):Int:=(h.map (·.1)).sum
theorem cV (h a b:List Tl):av h (a++b)=av (av h a) b:=List.foldl_append
theorem j7 {a b:List Tl} (p:a.Perm b):∀h:List Tl,av h a=av h b:=by
 induction p with
 |nil=>intro h; rfl
 |cons x _ ih=>intro h; exact ih (h.erase x)
 |swap x y l=>intro h; show av ((h.erase y).erase x) l=av ((h.erase x).erase y) l; rw [List.erase_comm]
 |trans _ _ ih1 ih2=>intro h; exact (ih1 h).trans (ih2 h)
theorem lJ (w h:List Tl):(av h w).length<=h.length/\h.length<=(av h w).length+w.length:=by
 induction w generalizing h with
 |nil=>exact ⟨J5 _,by show h.length<=h.length+0; lia⟩
 |cons x r ih=>
  have h1:=ih (h.erase x)
  have h2:=List.length_erase (a:=x) (l:=h)
  show (av (h.erase x) r).length<=_/\_<=(av (h.erase x) r).length+(x::r).length
  rw [List.length_cons]
  split at h2 <;> lia
theorem fB (h:List Tl) (j:Int) (a b:List Tl):jl h j (a++b)=jl (av h a) (jl h j a) b:=by
 unfold jl
 rw [cV,List.length_append]
 lia
theorem nA (h:List Tl) (j:Int) (w:List Tl):jl h j w<=j:=by
 have:=lJ w h
 unfold jl; lia
theorem tK (h:List Tl) (j:Int) (a b:List Tl):jl h j (a++b)<=jl h j a:=by
 rw [fB]; exact nA _ _ _
theorem tW {a b:List Tl} (p:a.Perm b) (h:List Tl) (j:Int):jl h j a=jl h j b:=by
 unfold jl; rw [j7 p,p.length_eq]
theorem vc {t:Tl} {w:List Tl} (hw:t∉w) (r:List Tl):av (t::r) w=t::av r w:=by
 induction w generalizing r with
 |nil=>rfl
 |cons x w ih=>
  have hx:t≠x:=fun e=>hw (e▸JZ)
  show av ((t::r).erase x) w=t::av (r.erase x) w
  rw [List.erase_cons_tail (by simpa using hx),ih (fun h=>hw (JY _ h))]
theorem yJ {w:List Tl}:∀{h:List Tl},(∀x∈w,x∉h)->av h w=h:=by
 induction w with
 |nil=>intro h _; rfl
 |cons x w ih=>
  intro h hx
  show av (h.erase x) w=h
  rw [List.erase_of_not_mem (hx x JZ)]
  exact ih fun y hy=>hx y (JY _ hy)
noncomputable def Cf:List Tl->List Tl
 |[]=>[]
 |x::r=>if x∈Cf r then Cf r else x::Cf r
theorem lT:∀{l:List Tl} {x:Tl},x∈l->x∈Cf l
 |y::r,x,h=>by
  unfold Cf
  split
  ·rename_i hy
   rcases List.mem_cons.mp h with e|h
   ·rw [e]; exact hy
   ·exact lT h
  ·rcases List.mem_cons.mp h with e|h
   ·rw [e]; exact JZ
   ·exact JY _ (lT h)
theorem mE:∀l:List Tl,(Cf l).Nodup
 |[]=>List.nodup_nil
 |x::r=>by
  unfold Cf
  split
  ·exact mE r
  ·rename_i h; exact List.nodup_cons.mpr ⟨h,mE r⟩
theorem BA {f g:Tl->Int}:∀{ks:List Tl},(∀p∈ks,f p<=g p)->(ks.map f).sum<=(ks.map g).sum
 |[],_=>Int.le_refl _
 |x::r,h=>by
  have h1:=h x JZ
  have h2:=BA (ks:=r) fun p hp=>h p (JY _ hp)
  simp only [List.map_cons,List.sum_cons]
  lia
theorem zR {f:Tl->Int} {h w a u b v:List Tl} (hf:∀p,p∈h->0<=f p) (hfa:∀p,p∈a->0<=f p) (hfb:∀p,p∈b->0<=f p) (hc:∀p,h.count p-w.count p<=(a.count p-u.count p)+(b.count p-v.count p)) :
  ((av h w).map f).sum<=((av a u).map f).sum+((av b v).map f).sum:=by
 have hn:=mE (h++(a++b))
 have m1:∀x∈av h w,x∈Cf (h++(a++b)):=fun x hx=>lT (J3 _ ((cg w h).subset hx))
 have m2:∀x∈av a u,x∈Cf (h++(a++b)):=fun x hx=>lT (J2 _ (J3 _ ((cg u a).subset hx)))
 have m3:∀x∈av b v,x∈Cf (h++(a++b)):=fun x hx=>lT (J2 _ (J2 _ ((cg v b).subset hx)))
 rw [C3 f hn _ m1,C3 f hn _ m2,C3 f hn _ m3,<-sm]
 refine BA fun p _=>?_
 rw [iW,iW,iW]
 have hp:=hc p
 by_cases hz:0<=f p
 ·rw [<-Int.add_mul]
  exact Int.mul_le_mul_of_nonneg_right 0x1 hz
 ·have z1:h.count p=0:=List.count_eq_zero.mpr fun hm=>hz (hf p hm)
  have z2:a.count p=0:=List.count_eq_zero.mpr fun hm=>hz (hfa p hm)
  have z3:b.count p=0:=List.count_eq_zero.mpr fun hm=>hz (hfb p hm)
  rw [z1,z2,z3]; simp
theorem tJ (l:List Tl):(l.map fun _=>(1:Int)).sum=(l.length:Int):=by
 induction l with
 |nil=>rfl
 |cons x r ih=>simp only [List.map_cons,List.sum_cons,List.length_cons,ih]; lia
theorem CI {h a u b v:List Tl} (hp:h.Perm (a++b)) (hf:∀p∈h,0<=p.1) (j k:Int):g6 (av h (u++v))<=g6 (av a u)+g6 (av b v)/\jl a j u+jl b k v<=jl h (j+k) (u++v):=by
 have hc:∀p,h.count p-(u++v).count p<=(a.count p-u.count p)+(b.count p-v.count p):=fun p=>by
  rw [hp.count_eq,List.count_append,List.count_append]; lia
 have ha:∀p,p∈a->p∈h:=fun p h'=>hp.mem_iff.mpr (J3 _ h')
 have hb:∀p,p∈b->p∈h:=fun p h'=>hp.mem_iff.mpr (J2 _ h')
 refine ⟨zR hf (fun p h'=>hf p (ha p h')) (fun p h'=>hf p (hb p h')) hc,?_⟩
 have:=zR (f:=fun _=>1) (fun _ _=>0x3) (fun _ _=>0x3) (fun _ _=>0x3) hc
 rw [tJ,tJ,tJ] at this
 have hl:=hp.length_eq
 rw [List.length_append] at hl
 unfold jl
 rw [List.length_append]
 lia
theorem Ea {t:Tl} {r w:List Tl} (hf:∀p∈t::r,0<=p.1) (j:Int):g6 (av (t::r) w)<=t.1+g6 (av r w)/\jl r j w<=jl (t::r) j w:=by
 have:=CI (h:=t::r) (a:=[t]) (u:=[]) (b:=r) (v:=w) (List.Perm.refl _) hf 0 j
 have e:g6 (av [t] [])=t.1:=by show t.1+0=t.1; lia
 have e2:jl [t] 0 []=0:=by unfold jl; show (0:Int)-(0-(1-1))=0; lia
 rw [e,e2] at this
 simpa using this
theorem jN {h:List Tl} (hf:∀p∈h,0<=p.1):0<=g6 h:=by
 induction h with
 |nil=>exact Int.le_refl _
 |cons t r ih=>
  have h1:=hf t JZ
  have h2:=ih fun p hp=>hf p (JY _ hp)
  show 0<=t.1+g6 r
  lia
noncomputable def vw (a b:Tl):Prop:=a.1<b.1\/a.1=b.1/\a.2<=b.2
noncomputable def G0 (a b:Tl):Prop:=a.1<b.1\/a.1=b.1/\a.2<b.2
theorem C8 {a b:Tl} (h:G0 a b) (h':vw b a):False:=by unfold G0 at h; unfold vw at h'; lia
noncomputable def dg (l:By) (h:List Tl) (j:Int):List (List Tl×Int):=match h with
 |[]=>[]
 |t::r=>((cU l t).map fun w=>(av (t::r) w,jl (t::r) j w)).filter fun q=>decide (0<=q.2)
noncomputable def LL (l:By):Nat->List Tl->Int->Int
 |0,_,_=>0
 |_+1,[],_=>0
 |n+1,t::r,j=>xg ((t.1+LL l n r j)::(dg l (t::r) j).map fun q=>LL l n q.1 q.2)
structure Play (AM:List (List Tl)) (h:List Tl) (j:Int) (Ws:List (List Tl)):Prop where
 mem:∀w∈Ws,w∈AM
 jok:0<=jl h j Ws.flatten
theorem BG {l:By} {t:Tl} {r:List Tl} {j:Int} {w:List Tl} (hw:w∈cU l t) (hj:0<=jl (t::r) j w):(av (t::r) w,jl (t::r) j w)∈dg l (t::r) j:=
 List.mem_filter.mpr ⟨List.mem_map.mpr ⟨w,hw,rfl⟩,by simpa using hj⟩
theorem lV {l:By} {t:Tl} {r:List Tl} {j:Int} {q:List Tl×Int} (h:q∈dg l (t::r) j):∃w∈cU l t,q=(av (t::r) w,jl (t::r) j w)/\0<=jl (t::r) j w:=by
 obtain ⟨h1,h2⟩:=List.mem_filter.mp h
 obtain ⟨w,hw,rfl⟩:=List.mem_map.mp h1
 exact ⟨w,hw,rfl,by simpa using h2⟩
theorem gy {t:Tl} {r w:List Tl} (h:t∈w):(av (t::r) w).length<=r.length:=by
 obtain ⟨a,b,rfl⟩:=List.append_of_mem h
 have p:(a++t::b).Perm (t::(a++b)):=List.perm_middle
 rw [j7 p]
 show (av ((t::r).erase t) (a++b)).length<=r.length
 rw [List.erase_cons_head]
 exact (lJ _ _).1
theorem wQ {l:By} {AM:List (List Tl)} (hs:∀w∈AM,w.Pairwise G0) (bg:∀t w,w∈AM->t∈w.take 3->w∈cU l t):∀(n:Nat) (h:List Tl) (j:Int) (Ws:List (List Tl)),h.length<=n->h.Pairwise vw->(∀p∈h,0<=p.1)->j<=2->Play AM h j Ws->LL l n h j<=g6 (av h Ws.flatten)
 |0,h,j,Ws,hl,_,hf,_,_=>by
  have:h=[]:=List.eq_nil_of_length_eq_zero 0x1
  subst this
  exact jN fun p hp=>hf p ((cg _ _).subset hp)
 |n+1,[],j,Ws,hl,_,hf,_,_=>jN fun p hp=>hf p ((cg _ _).subset hp)
 |n+1,t::r,j,Ws,hl,ho,hf,hj,pl=>by
  rw [List.length_cons] at hl
  rw [List.pairwise_cons] at ho
  by_cases ht:t∈Ws.flatten
  ·obtain ⟨w,hw,htw⟩:=List.mem_flatten.mp ht
   obtain ⟨A,B,rfl⟩:=List.append_of_mem hw
   have pw:(A++w::B).flatten.Perm (w++(A++B).flatten):=by
    rw [List.flatten_append,List.flatten_cons,List.flatten_append,<-List.append_assoc,<-List.append_assoc]
    exact (List.perm_append_comm).append_right _
   have hj0:0<=jl (t::r) j (w++(A++B).flatten):=by rw [<-tW pw]; exact pl.jok
   have hjw:0<=jl (t::r) j w:=Int.le_trans hj0 (tK _ _ _ _)
   have hwA:w∈AM:=pl.mem w 0x4
   have h3:t∈w.take 3:=by
    obtain ⟨a,b,rfl⟩:=List.append_of_mem htw
    have hst:=hs _ hwA
    rw [List.pairwise_append] at hst
    have out:∀x∈a,x∉t::r:=fun x hx hm=>by
     have h1:=hst.2.2 x hx t JZ
     rcases List.mem_cons.mp hm with e|hm
     ·subst e; unfold G0 at h1; lia
     ·exact C8 h1 (ho.1 x hm)
    have e1:av (t::r) (a++t::b)=av (t::r) (t::b):=by rw [cV,yJ out]
    have e2:=lJ (t::b) (t::r)
    unfold jl at hjw
    rw [e1,List.length_append] at hjw
    have hla:a.length<=2:=by lia
    rw [List.take_append]
    refine J2 _ ?_
    obtain ⟨k,hk⟩:∃k,3-a.length=k+1:=⟨2-a.length,0x1⟩
    rw [hk,List.take_succ_cons]
    exact JZ
   have hm:=BG (l:=l) (bg t w hwA h3) hjw
   have hle:LL l (n+1) (t::r) j<=LL l n (av (t::r) w) (jl (t::r) j w):=oZ (JY _ (List.mem_map.mpr ⟨_,hm,rfl⟩))
   have hsub:=cg w (t::r)
   have ih:=wQ hs bg n (av (t::r) w) (jl (t::r) j w) (A++B) (Nat.le_trans (gy htw) 0x1) ((List.pairwise_cons.mpr ho).sublist hsub) (fun p hp=>hf p (hsub.subset hp)) (Int.le_trans (nA _ _ _) hj) ⟨fun x hx=>pl.mem x (by rcases List.mem_append.mp hx with h|h <;> simp [h]),by rw [<-fB]; exact hj0⟩
   rw [j7 pw,cV]
   lia
  ·rw [vc ht]
   have e1:jl r j Ws.flatten=jl (t::r) j Ws.flatten:=by unfold jl; rw [vc ht,List.length_cons,List.length_cons]; lia
   have ih:=wQ hs bg n r j Ws 0x1 ho.2 (fun p hp=>hf p (JY _ hp)) hj ⟨pl.mem,by rw [e1]; exact pl.jok⟩
   have hle:LL l (n+1) (t::r) j<=t.1+LL l n r j:=oZ JZ
   show _<=t.1+g6 (av r Ws.flatten)
   lia
theorem vX {l:By} {AM:List (List Tl)} (bs:∀t w,w∈cU l t->w∈AM/\t∈w):∀(n:Nat) (h:List Tl) (j:Int),h.length<=n->(∀p∈h,0<=p.1)->0<=j->∃Ws,Play AM h j Ws/\g6 (av h Ws.flatten)<=LL l n h j
 |0,h,j,hl,_,hj=>by
  have:h=[]:=List.eq_nil_of_length_eq_zero 0x1
  subst this
  exact ⟨[],⟨fun _ h=>(nomatch h),by unfold jl; show 0<=j-(0-(0-0)); lia⟩,Int.le_refl _⟩
 |n+1,[],j,hl,_,hj=>⟨[],⟨fun _ h=>(nomatch h),by unfold jl; show 0<=j-(0-(0-0)); lia⟩,Int.le_refl _⟩
 |n+1,t::r,j,hl,hf,hj=>by
  rw [List.length_cons] at hl
  have hmem:LL l (n+1) (t::r) j∈(t.1+LL l n r j)::(dg l (t::r) j).map fun q=>LL l n q.1 q.2:=lD 0x4
  rcases List.mem_cons.mp hmem with e|h
  ·obtain ⟨Ws,pl,hle⟩:=vX bs n r j 0x1 (fun p hp=>hf p (JY _ hp)) hj
   obtain ⟨c1,c2⟩:=Ea (t:=t) (r:=r) (w:=Ws.flatten) hf j
   exact ⟨Ws,⟨pl.mem,Int.le_trans pl.jok c2⟩,0x1⟩
  ·obtain ⟨q,hq,e⟩:=List.mem_map.mp h
   obtain ⟨w,hw,rfl,hjw⟩:=lV hq
   obtain ⟨hwA,htw⟩:=bs t w hw
   obtain ⟨Ws,pl,hle⟩:=vX bs n (av (t::r) w) (jl (t::r) j w) (Nat.le_trans (gy htw) 0x1) (fun p hp=>hf p ((cg _ _).subset hp)) hjw
   refine ⟨w::Ws,⟨fun x hx=>?_,?_⟩,?_⟩
   ·rcases List.mem_cons.mp hx with e|h
    ·rw [e]; exact hwA
    ·exact pl.mem x h
   ·rw [List.flatten_cons,fB]; exact pl.jok
   ·rw [List.flatten_cons,cV,<-e]; exact hle
section
variable (m c:Nat)
end
inductive Ml where
 |r (c f n:Int)
 |g (n:Int) (k:List Int)
noncomputable def md:Ml->D
 |.r c f n=>rn c f n
 |.g n k=>gp n k
noncomputable def tl:Ml->List Tl
 |.r c f n=>(List.range n.toNat).map fun (k:Nat)=>(f+(k:Int),c)
 |.g n k=>k.map fun x=>(n,x)
noncomputable def zr (m c:Nat):Ml->Bool
 |.r col f n=>lW m c col f n
 |.g n k=>l5 m c n k
theorem wL:∀y:Ml,vq (md y)
 |.r c f n=>.inl ⟨c,f,n,rfl⟩
 |.g n k=>.inr ⟨n,k,rfl⟩
structure MOk (m c:Nat) (y:Ml):Prop where
 known:((gD m c).any fun z=>PyData.eqv z (md y))=zr m c y
 tiles:∀C E:Addr,bu C E [hs C m c,.d (md y)]=if zr m c y=true then rt (.new ((tl y).map pr)) else some (.error (.ref E))
 law:cW [.d (md y)]=rt (.new ((tl y).map pr))
 len:(tl y).length<=13
 box:∀p∈tl y,0<=p.1/\p.1<=13/\0<=p.2/\p.2<=3
theorem HK {m c:Nat} {col f n:Int} (h0:0<=n) (h1:n<=13) (h2:0<=f) (h3:f+n-1<=13) (h4:0<=col) (h5:col<=3):MOk m c (.r col f n):=by
 have ht:jG col f n=(tl (.r col f n)).map pr:=by unfold jG tl; rw [List.map_map]; rfl
 refine ⟨sj m c col f n,fun C E=>?_,?_,by unfold tl; simp; lia,fun p hp=>?_⟩
 ·show bu C E [hs C m c,.d (rn col f n)]=_
  rw [u6 C E m c col f n 0x1 0x1,ht]
  rfl
 ·show cW [.d (rn col f n)]=_
  rw [nU col f n 0x1 0x1,ht]
 ·obtain ⟨k,hk,rfl⟩:=List.mem_map.mp hp
  have hk:=List.mem_range.mp hk
  exact ⟨by show 0<=f+(k:Int); lia,by show f+(k:Int)<=13; lia,h4,h5⟩
theorem Ib {m c:Nat} {n:Int} {k:List Int} (h0:0<=n) (h1:n<=13) (hl:k.length<=4) (hk:∀x∈k,0<=x/\x<=3) (hc:yp c k=decide (k∈kH c)):MOk m c (.g n k):=by
 have ht:jE n k=(tl (.g n k)).map pr:=by unfold jE tl; rw [List.map_map]; rfl
 refine ⟨(sZ m c n k).trans (CQ m c n k hc).symm,fun C E=>?_,?_,by unfold tl; simp; lia,fun p hp=>?_⟩
 ·show bu C E [hs C m c,.d (gp n k)]=_
  rw [vm C E m c n k 0x1,ht]
  rfl
 ·show cW [.d (gp n k)]=_
  rw [nJ n k 0x1,ht]
 ·obtain ⟨x,hx,rfl⟩:=List.mem_map.mp hp
  exact ⟨h0,h1,(hk x hx).1,(hk x hx).2⟩
theorem E9:∀c∈[1,2,3,4],∀k∈kH c,k.length<=4/\(∀x∈k,0<=x/\x<=3)/\yp c k=decide (k∈kH c):=by decide +kernel
theorem II {c:Nat} (h1:1<=c) (h4:c<=4):c∈[1,2,3,4]:=by simp; lia
theorem AR {m c:Nat} (hm:m<=13) (h1:1<=c) (h4:c<=4) {x:D} (h:x∈gD m c):∃y,md y=x/\MOk m c y:=by
 unfold gD at h
 rcases List.mem_append.mp h with q|q
 ·obtain ⟨n0,k,hk,hn,rfl⟩:=lh q
  obtain ⟨a1,a2,a3⟩:=E9 c (II h1 h4) k hk
  exact ⟨.g _ k,rfl,Ib 0x1 0x1 a1 a2 a3⟩
 ·obtain ⟨col,f0,s,hc,_,hs,rfl⟩:=qr q
  exact ⟨.r _ _ _,rfl,HK 0x1 0x1 0x1 0x1 0x1 0x1⟩
theorem qd:∀(ks ms:List Int),cL false (ks.map PyData.int) (ms.map PyData.int)=some (!ll ms ks)
 |[],[]=>rfl
 |[],_::_=>rfl
 |_::_,[]=>rfl
 |x::xs,y::ys=>by
  rw [List.map_cons,List.map_cons,cL,xm]
  show _=some (!HT.lexLt (y::ys) (x::xs))
  rw [HT.lexLt_cons]
  by_cases h:x=y
  ·subst h
   rw [if_pos 0x4,if_pos rfl]
   exact qd xs ys
  ·rw [if_neg (by simpa using h),if_neg (Ne.symm h)]
   show some (decide (x<=y))=some (!decide (y<x))
   congr 1
   by_cases hlt:y<x
   ·rw [decide_eq_true hlt,decide_eq_false 0x1]; rfl
   ·rw [decide_eq_false hlt,decide_eq_true 0x1]; rfl
theorem JF {x y:D} (hx:vq x) (hy:vq y):cD false x y=some (!ll (nF y) (nF x)):=by
 obtain ⟨b,hb⟩:=Option.isSome_iff_exists.mp (hy.cmp hx)
 rw [GK hy.ok hx.ok hb]
 rcases hx with ⟨c,f,n,rfl⟩|⟨n,k,rfl⟩ <;> rcases hy with ⟨c',f',n',rfl⟩|⟨n',k',rfl⟩
 ·rw [EC] at hb
  cases hb
  unfold rn cD
  rw [cL,if_pos oX]
  exact qd [c,f,n] [c',f',n']
 ·rw [E2] at hb
  cases hb
  unfold gp rn cD
  rw [cL,if_neg (by rw [BF]; exact Bool.false_ne_true)]
  show some (cS false "run" "group")=some false
  congr 1
 ·rw [EA] at hb
  cases hb
  unfold gp rn cD
  rw [cL,if_neg (by rw [pj]; exact Bool.false_ne_true)]
  show some (cS false "group" "run")=some true
  congr 1
 ·rw [EN] at hb
  cases hb
  unfold gp cD
  rw [cL,if_pos wq,cL,xm,cz]
  by_cases h:n=n'
  ·subst h
   rw [if_pos 0x4,if_pos rfl,cL,vH]
   by_cases hk:k=k'
   ·subst hk
    rw [if_pos 0x4,fH]; rfl
   ·rw [if_neg (by simpa using hk)]
    exact qd k k'
  ·rw [if_neg (by simpa using h),if_neg (Ne.symm h)]
   show some (decide (n<=n'))=some (!decide (n'<n))
   congr 1
   by_cases hlt:n'<n
   ·rw [decide_eq_true hlt,decide_eq_false 0x1]; rfl
   ·rw [decide_eq_false hlt,decide_eq_true 0x1]; rfl
theorem F4 {x:D} (h:vq x):x.depth<=50:=by
 rcases h with ⟨c,f,n,rfl⟩|⟨n,k,rfl⟩
 ·exact Hq ..
 ·exact H9 ..
theorem Gi {x y:D} (hx:vq x) (hy:vq y):lg (.d x) (.d y)=rt (.d (.bool (!ll (nF y) (nF x)))):=by
 have h0:Ip (.d x) (.d y)=none:=by
  rcases hx with ⟨c,f,n,rfl⟩|⟨n,k,rfl⟩ <;> rcases hy with ⟨c',f',n',rfl⟩|⟨n',k',rfl⟩ <;> rfl
 unfold lg AZ
 rw [h0]
 show gC false (.d x) (.d y)=_
 unfold gC
 dsimp only
 have:=F4 hx
 rw [if_pos 0x1,JF hx hy]
 rfl
noncomputable def yQ (xs:List D):Bool:=(List.range (xs.length-1)).all fun k=>!ll (nF (xs.getD (k+1) .none)) (nF (xs.getD k .none))
theorem Ba (xs:List D) (hM:∀x∈xs,vq x) (hl:xs.length<=900):bj [.d (.list xs)]=rt (.d (.bool (yQ xs))):=by
 unfold bj ib
 refine dH (x:=.d (.bool (yQ xs))) (bC ?_)
 refine (cj (bh (bp (xs:=df 1 ((xs.length:Int)-1).toNat) (ys:=((List.range (xs.length-1)).map fun k=>!ll (nF (xs.getD (k+1) .none)) (nF (xs.getD k .none))).map PyData.bool) (jI (i:=1) (j:=(xs.length:Int)) (bH rfl ((cj (bh (x:=.d (.list xs)) rfl)).trans rfl)) 0x1 0x1 0x1 0x1) (by unfold df; simp; lia) ?_))).trans ?_
 ·have hn:((xs.length:Int)-1).toNat=xs.length-1:=by lia
  rw [hn]
  unfold df
  rw [List.map_map]
  refine dq (f:=fun (k:Nat)=>PyData.int (1+(k:Int))) fun k hk=>?_
  have hk:=List.mem_range.mp hk
  have e1:bN (.d (.list xs)) (.d (.int (k:Int)))=rt (.d (xs.getD k .none)):=iY (ub 0x1 _)
  have e2:bN (.d (.list xs)) (.d (.int (1+(k:Int))))=rt (.d (xs.getD (k+1) .none)):=by
   rw [show (1+(k:Int))=((k+1:Nat):Int) by lia]
   exact iY (ub 0x1 _)
  have m1:∀i,i<xs.length->vq (xs.getD i .none):=fun i hi=>by
   rw [show xs.getD i .none=xs[i] by simp [hi]]
   exact hM _ (List.getElem_mem hi)
  refine (au (x:=.d (xs.getD k .none)) (y:=.d (xs.getD (k+1) .none)) ?_ ?_).trans (Gi (m1 k 0x1) (m1 (k+1) 0x1))
  ·refine (au (x:=.d (.list xs)) (y:=.d (.int (k:Int))) rfl ?_).trans e1
   refine (au (x:=.d (.int (1+(k:Int)))) (y:=.d (.int 1)) rfl rfl).trans ?_
   rw [dE,show (1+(k:Int))-1=(k:Int) by lia]
  ·exact (au (x:=.d (.list xs)) (y:=.d (.int (1+(k:Int)))) rfl rfl).trans e2
 ·rw [l6]
  unfold yQ
  rw [List.all_map]
  rfl
theorem IZ {x y:D} (hx:vq x) (hy:vq y):PyData.eqv x y=true↔x=y:=by
 rcases hx with ⟨c,f,n,rfl⟩|⟨n,k,rfl⟩ <;> rcases hy with ⟨c',f',n',rfl⟩|⟨n',k',rfl⟩
 ·rw [wA]
  constructor
  ·intro h; simp at h; obtain ⟨rfl,rfl,rfl⟩:=h; rfl
  ·intro h; unfold rn at h; simp at h; simp [h]
 ·rw [rq]
  exact ⟨fun h=>(Bool.false_ne_true h).elim,fun h=>by unfold rn gp at h; simp at h⟩
 ·rw [ro]
  exact ⟨fun h=>(Bool.false_ne_true h).elim,fun h=>by unfold rn gp at h; simp at h⟩
 ·rw [wa]
  constructor
  ·intro h; simp at h; obtain ⟨rfl,rfl⟩:=h; rfl
  ·intro h
   unfold gp at h
   simp at h
   simp [h.1,B6 h.2]
theorem zU (l:By) (t' t:Tl) (w:List Tl):cU (fA l t' w) t=if t'=t then cU l t++[w] else cU l t:=by
 unfold fA
 by_cases hb:jh l t'=true
 ·rw [if_pos hb]
  unfold cU
  rw [List.find?_map]
  have e:((fun x=>decide (x.1=t))∘fun x:dM×List (List dM)=>if x.1=t' then (x.1,x.2++[w]) else x)=fun x=>decide (x.1=t):=by
   funext x
   show decide ((if x.1=t' then (x.1,x.2++[w]) else x).1=t)=_
   split <;> rfl
  rw [e]
  cases hf:l.find? fun x=>decide (x.1=t) with
  |none=>
   by_cases ht:t'=t
   ·subst ht
    obtain ⟨x,hx,h2⟩:=List.any_eq_true.mp hb
    have:=List.find?_eq_none.mp hf x hx
    exact absurd h2 this
   ·rw [if_neg ht]; rfl
  |some x=>
   have hx:x.1=t:=by simpa using List.find?_some hf
   by_cases ht:t'=t
   ·rw [if_pos ht]
    show ((some (if x.1=t' then (x.1,x.2++[w]) else x)).map (·.2)).getD []=x.2++[w]
    rw [if_pos (hx.trans ht.symm)]; rfl
   ·rw [if_neg ht]
    show ((some (if x.1=t' then (x.1,x.2++[w]) else x)).map (·.2)).getD []=x.2
    rw [if_neg (fun z=>ht (z.symm.trans hx))]; rfl
 ·rw [if_neg hb]
  unfold cU
  rw [List.find?_append]
  cases hf:l.find? fun x=>decide (x.1=t) with
  |none=>
   by_cases ht:t'=t
   ·rw [if_pos ht]; simp [ht]
   ·rw [if_neg ht]; simp [ht]
  |some x=>
   have hx:x.1=t:=by simpa using List.find?_some hf
   have ht:t'≠t:=fun z=>hb (List.any_eq_true.mpr ⟨x,List.mem_of_find?_eq_some hf,by simp [hx,z]⟩)
   rw [if_neg ht]; rfl
theorem uW (w x:List Tl) (t:Tl):∀(ts:List Tl) (l:By),x∈cU (ts.foldl (fun l t=>fA l t w) l) t↔x∈cU l t\/(x=w/\t∈ts)
 |[],l=>by simp
 |s::ts,l=>by
  rw [List.foldl_cons,uW w x t ts,zU]
  by_cases hs:s=t
  ·rw [if_pos hs]
   subst hs
   rw [List.mem_append,List.mem_singleton]
   constructor
   ·rintro ((h|h)|h)
    ·exact .inl h
    ·exact .inr ⟨h,JZ⟩
    ·exact .inr ⟨h.1,JY _ h.2⟩
   ·rintro (h|h)
    ·exact .inl (.inl h)
    ·exact .inl (.inr h.1)
  ·have hs':¬t=s:=fun e=>hs e.symm
   rw [if_neg hs]; simp [hs']
theorem yo (x:List Tl) (t:Tl):∀(wss:List (List Tl)) (l:By),x∈cU (wss.foldl iC l) t↔x∈cU l t\/(x∈wss/\t∈x.take 3)
 |[],l=>by simp
 |w::wss,l=>by
  rw [List.foldl_cons,yo x t wss]
  unfold iC
  rw [uW]
  constructor
  ·rintro ((h|⟨h,h2⟩)|⟨h,h2⟩)
   ·exact .inl h
   ·subst h; exact .inr ⟨JZ,h2⟩
   ·exact .inr ⟨JY _ h,h2⟩
  ·rintro (h|⟨h,h2⟩)
   ·exact .inl (.inl h)
   ·rcases List.mem_cons.mp h with e|h
    ·subst e; exact .inl (.inr ⟨rfl,h2⟩)
    ·exact .inr ⟨h,h2⟩
theorem jQ (x:List Tl) (t:Tl) (wss:List (List Tl)):x∈cU (kW wss) t↔x∈wss/\t∈x.take 3:=by
 unfold kW
 rw [yo]
 have:cU ([]:By) t=[]:=rfl
 rw [this]; simp
noncomputable def vt (m c:Nat):List Ml:=((List.range m).flatMap fun (n0:Nat)=>(kH c).map fun k=>Ml.g (1+(n0:Int)) k)++(List.range c).flatMap fun (col:Nat)=>(List.range m).flatMap fun (f0:Nat)=>(List.range (m-2-f0)).map fun (s:Nat)=>Ml.r (col:Int) (1+(f0:Int)) (3+(s:Int))
theorem vN (m c:Nat):(vt m c).map md=gD m c:=by
 unfold vt gD eY dt jC jx hG
 simp only [List.map_append,List.map_flatMap,List.map_map]
 rfl
theorem Gq:∀{x y:Ml},md x=md y->x=y
 |.r _ _ _,.r _ _ _,h=>by
  have h':rn _ _ _=rn _ _ _:=h
  unfold rn at h'
  simp at h'
  obtain ⟨rfl,rfl,rfl⟩:=h'
  rfl
 |.g _ _,.g _ _,h=>by
  have h':gp _ _=gp _ _:=h
  unfold gp at h'
  simp at h'
  obtain ⟨rfl,h2⟩:=h'
  rw [B6 h2]
 |.r _ _ _,.g _ _,h=>by
  have h':rn _ _ _=gp _ _:=h
  unfold rn gp at h'
  simp at h'
 |.g _ _,.r _ _ _,h=>by
  have h':gp _ _=rn _ _ _:=h
  unfold rn gp at h'
  simp at h'
theorem Ae {m c:Nat} (hm:m<=13) (h1:1<=c) (h4:c<=4) {y:Ml} (h:y∈vt m c):MOk m c y/\zr m c y=true:=by
 have hk:md y∈gD m c:=by rw [<-vN]; exact List.mem_map.mpr ⟨y,h,rfl⟩
 obtain ⟨z,e,hz⟩:=AR hm h1 h4 hk
 have:=Gq e
 subst this
 refine ⟨hz,?_⟩
 rw [<-hz.known]
 exact List.any_eq_true.mpr ⟨md z,hk,(IZ (wL z) (wL z)).mpr rfl⟩
noncomputable def GZ (m c:Nat):List (List Tl):=(vt m c).map tl
theorem Bh {m c:Nat} {w:List Tl}:w∈GZ m c↔(∃n0:Nat,n0<m/\∃k∈kH c,w=k.map fun x=>(1+(n0:Int),x))\/∃col f0 s:Nat,col<c/\f0<m/\s<m-2-f0/\w=(List.range (3+s)).map fun (k:Nat)=>(1+(f0:Int)+(k:Int),(col:Int)):=by
 unfold GZ vt
 simp only [List.map_append,List.map_flatMap,List.map_map,List.mem_append,List.mem_flatMap,List.mem_range,List.mem_map,Function.comp]
 constructor
 ·rintro (⟨n0,h,k,hk,rfl⟩|⟨col,h1,f0,h2,s,h3,rfl⟩)
  ·exact .inl ⟨n0,h,k,hk,rfl⟩
  ·refine .inr ⟨col,f0,s,h1,h2,h3,?_⟩
   show (List.range (3+(s:Int)).toNat).map _=_
   rw [show (3+(s:Int)).toNat=3+s by lia]
 ·rintro (⟨n0,h,k,hk,rfl⟩|⟨col,f0,s,h1,h2,h3,rfl⟩)
  ·exact .inl ⟨n0,h,k,hk,rfl⟩
  ·refine .inr ⟨col,h1,f0,h2,s,h3,?_⟩
   show (List.range (3+(s:Int)).toNat).map _=_
   rw [show (3+(s:Int)).toNat=3+s by lia]
theorem xH:∀c∈[1,2,3,4],∀k∈kH c,k.Pairwise (·<·)/\3<=k.length/\k.length<=4/\∀x∈k,0<=x/\x<(c:Int):=by decide +kernel
theorem GI {m c:Nat} (h1:1<=c) (h4:c<=4) {w:List Tl} (h:w∈GZ m c):w.Pairwise G0:=by
 rcases Bh.mp h with ⟨n0,_,k,hk,rfl⟩|⟨col,f0,s,_,_,_,rfl⟩
 ·have:=(xH c (II h1 h4) k hk).1
  rw [List.pairwise_map]
  exact this.imp fun h=>.inr ⟨rfl,h⟩
 ·rw [List.pairwise_map]
  exact (List.pairwise_lt_range).imp fun h=>.inl (by show 1+(f0:Int)+_<1+(f0:Int)+_; lia)
theorem pq {m c:Nat} (hm:m<=13) (h1:1<=c) (h4:c<=4) {w:List Tl} (h:w∈GZ m c):3<=w.length/\w.length<=13:=by
 rcases Bh.mp h with ⟨n0,_,k,hk,rfl⟩|⟨col,f0,s,_,_,_,rfl⟩
 ·have:=xH c (II h1 h4) k hk
  rw [List.length_map]; lia
 ·rw [List.length_map,List.length_range]; lia
noncomputable def nE (C:Addr):DS->M Out:=(bE (aW 1 (cC aj)) (bE (dZ (qI (aa (eC (.int 1)) (aa (e2 aH (ft C "most" (af 0)) (eC (.int 1))) aj))) (ar 2) (lr 1 (bb 1 [2] (qW (aa (ft C "colours" (af 0)) aj)) (ar 0) bY (bf (aa (af 1) (aa (af 0) aj)))))) (aZ (af 1))))
noncomputable def fV (C:Addr):List DV->M DV:=eG ["house", "found", "number"] (nE C)
noncomputable def mh (C:Addr) (J9:Addr):DS->M Out:=(fQ (gP (fun δ=>bd ((aL (ax 3 (ik C)) (aa (af 0) (aa (af 1) (aa (af 2) aj)))) δ) bI)) (fun _=>some (.error (.ref J9))) bP)
noncomputable def bG (C:Addr) (J9:Addr):List DV->M DV:=eG ["house", "hand", "jokers"] (mh C J9)
noncomputable def xM:DS->M Out:=(aZ (aL C1 (aa (bb 1 [] (kG (af 0)) (ar 0) bY (e2 bN (af 0) (eC (.int 0)))) aj)))
noncomputable def lR:List DV->M DV:=eG ["tiles"] (xM)
noncomputable def rA:DS->M Out:=(bE (aW 3 (aL AX (aa (af 0) aj))) (bE (dZ (kG (af 2)) (ar 4) (fQ (fun δ=>bd (e2 (yX false) (af 4) (af 3) δ) bI) (zt 3 (af 4)) bP)) (bE (aW 5 (e2 gSub (aL dF (aa (af 0) aj)) (aL dF (aa (af 3) aj)))) (aZ (Bm (aa (af 3) (aa (e2 gSub (af 1) (e2 gSub (aL dF (aa (af 2) aj)) (af 5))) aj)))))))
noncomputable def bx:List DV->M DV:=eG ["tiles", "jokers", "wanted", "rest", "tile", "from_hand"] (rA)
noncomputable def g8 (C:Addr) (Kb:Addr):DS->M Out:=(bE (aW 2 (cC aj)) (bE (dZ (kG (af 1)) (ar 3) (lr 2 (aL (bq 2 (bu C Kb)) (aa (af 0) (aa (af 3) aj))))) (bE (fQ (gP (fun δ=>bd ((aL (ax 1 (bj)) (aa (af 1) aj)) δ) bI)) (fun _=>some (.error (.ref Kb))) bP) (aZ (af 2)))))
noncomputable def cw (C:Addr) (Kb:Addr):List DV->M DV:=eG ["house", "laying", "wanted", "meld"] (g8 C Kb)
noncomputable def zH (C:Addr) (J9:Addr) (Kb:Addr):DS->M Out:=(bE (kJ (aL (bq 3 (bG C J9)) (aa (af 0) (aa (af 1) (aa (af 2) aj))))) (bE (aW 4 (aL (ax 3 (bx)) (aa (af 1) (aa (af 2) (aa (aL (bq 2 (cw C Kb)) (aa (af 0) (aa (af 3) aj))) aj))))) (bE (fQ (fun δ=>(fun δ=>bd (e2 fJ (e2 bN (af 4) (eC (.int 1))) (eC (.int 0)) δ) bI) (frz 4 δ)) (fun _=>some (.error (.ref Kb))) bP) (aZ (af 4)))))
noncomputable def mV (C:Addr) (J9:Addr) (Kb:Addr):List DV->M DV:=eG ["house", "hand", "jokers", "laying", "after"] (zH C J9 Kb)
noncomputable def iD (C:Addr) (Kb:Addr):DS->M Out:=(bE (aW 3 (bb 1 [0] (kG (aL (ax 1 (lG C)) (aa (af 0) aj))) (ar 0) bY (bf (aa (af 0) (aa (aL (bq 2 (bu C Kb)) (aa (af 1) (aa (af 0) aj))) aj))))) (fun δ=>(aZ (bb 1 [1,2] (kG (af 3)) (ar 0) (fun δ=>bd (e2 Cg (e2 bN (kZ (aL (ax 3 (bx)) (aa (af 1) (aa (af 2) (aa (e2 bN (af 0) (eC (.int 1))) aj))))) (eC (.int 1))) (eC (.int 0)) δ) bI) (af 0))) (frz 3 δ)))
noncomputable def bc (C:Addr) (Kb:Addr):List DV->M DV:=eG ["house", "hand", "jokers", "pairs"] (iD C Kb)
noncomputable def zZ (P:Program) (w:World) (CT:Addr):DS->M Out:=(bE (aW 3 (bb 1 [1,2] (kG (Dx P w CT (af 0) (e2 bN (af 1) (eC (.int 0))) (cC aj))) (ar 0) bY (aL (ax 3 (bx)) (aa (af 1) (aa (af 2) (aa (af 0) aj)))))) (fun δ=>(aZ (bb 1 [] (kG (af 3)) (ar 0) (fun δ=>bd (e2 Cg (e2 bN (af 0) (eC (.int 1))) (eC (.int 0)) δ) bI) (af 0))) (frz 3 δ)))
noncomputable def ju (P:Program) (w:World) (CT:Addr):List DV->M DV:=eG ["self", "tiles", "jokers", "after"] (zZ P w CT)
noncomputable def iV (P:Program) (w:World) (CT:Addr) (m_search_least:List DV->M DV):DS->M Out:=(bE (fQ (gP (fun δ=>bd ((af 1) δ) CZ)) (aZ (eC (.int 0))) bP) (bE (aW 3 (bf (aa (aL yj (aa (af 1) aj)) (aa (af 2) aj)))) (yE P w CT 0 3 (dv P w CT 3 m_search_least (af 0) (aa (af 1) (aa (af 2) aj))))))
noncomputable def cY (P:Program) (w:World) (CT:Addr) (m_search_least:List DV->M DV):List DV->M DV:=eG ["self", "tiles", "jokers", "key"] (iV P w CT m_search_least)
noncomputable def jZ (P:Program) (w:World) (CT:Addr) (m_ways:List DV->M DV) (m_least_left:List DV->M DV):DS->M Out:=(bE (aW 3 (cC (aa (e2 aH (e2 bN (e2 bN (af 1) (eC (.int 0))) (eC (.int 0))) (dv P w CT 3 m_least_left (af 0) (aa (uX (af 1) (eC (.int 1))) (aa (af 2) aj)))) aj))) (bE (dZ (kG (dv P w CT 3 m_ways (af 0) (aa (af 1) (aa (af 2) aj)))) (kn 2 (cm (ar 4) (cm (ar 5) kM))) (kr 3 (dv P w CT 3 m_least_left (af 0) (aa (af 4) (aa (af 5) aj))))) (aZ (aL xG (aa (af 3) aj)))))
noncomputable def eN (P:Program) (w:World) (CT:Addr) (m_ways:List DV->M DV) (m_least_left:List DV->M DV):List DV->M DV:=eG ["self", "tiles", "jokers", "sums", "rest", "unused"] (jZ P w CT m_ways m_least_left)
noncomputable def px (P:Program) (w:World) (CT:Addr) (m_ways:List DV->M DV) (m_covers:List DV->M DV):DS->M Out:=(bE (fQ (gP (fun δ=>bd ((af 1) δ) CZ)) (aZ (eC (.bool true))) bP) (bE (dZ (kG (dv P w CT 3 m_ways (af 0) (aa (af 1) (aa (af 2) aj)))) (kn 2 (cm (ar 3) (cm (ar 4) kM))) (fQ (fun δ=>bd ((dv P w CT 3 m_covers (af 0) (aa (af 3) (aa (af 4) aj))) δ) bI) (aZ (eC (.bool true))) bP)) (aZ (eC (.bool false)))))
noncomputable def gW (P:Program) (w:World) (CT:Addr) (m_ways:List DV->M DV) (m_covers:List DV->M DV):List DV->M DV:=eG ["self", "tiles", "jokers", "rest", "unused"] (px P w CT m_ways m_covers)
noncomputable def jB (P:Program) (w:World) (CT:Addr) (m_least_left:List DV->M DV):DS->M Out:=(bE (aW 4 (dv P w CT 3 m_least_left (af 0) (aa (af 2) (aa (af 3) aj)))) (bE (aW 5 (cC aj)) (bE (aW 6 (af 2)) (bE (aW 7 (af 3)) (bE (dZ (kG (af 1)) (kn 2 (cm (ar 8) (cm (ar 9) kM))) (bE (aW 10 (kZ (aL (ax 3 (bx)) (aa (af 6) (aa (af 7) (aa (af 9) aj)))))) (zE (jo (fun δ=>bd (e2 Cg (e2 bN (af 10) (eC (.int 1))) (eC (.int 0)) δ) bI) (fun δ=>bd (e2 (g7 false) (dv P w CT 3 m_least_left (af 0) (aa (e2 bN (af 10) (eC (.int 0))) (aa (e2 bN (af 10) (eC (.int 1))) aj))) (af 4) δ) bI)) (bE (kr 5 (af 8)) (bE (aW 6 (e2 bN (af 10) (eC (.int 0)))) (bE (aW 7 (e2 bN (af 10) (eC (.int 1)))) (aW 10 (kZ (aL (ax 3 (bx)) (aa (af 6) (aa (af 7) (aa (af 9) aj))))))))) 100))) (aZ (af 5)))))))
noncomputable def dB (P:Program) (w:World) (CT:Addr) (m_least_left:List DV->M DV):List DV->M DV:=eG ["table", "playable", "hand", "jokers", "goal", "laying", "rest", "unused", "meld", "wanted", "after"] (jB P w CT m_least_left)
noncomputable def tF (P:Program) (w:World) (C:Addr) (CT:Addr) (J9:Addr) (Kb:Addr) (fM:PyData->Option Int) (UM:List PyData) (m_least_left:List DV->M DV):DS->M Out:=(bE (kJ (aL (bq 3 (bG C J9)) (aa (af 0) (aa (af 1) (aa (af 2) aj))))) (bE (aW 3 (aL (bq 3 (bc C Kb)) (aa (af 0) (aa (af 1) (aa (af 2) aj))))) (fun δ=>(bE (aW 4 (aL (EB P w CT fM UM) (aa (af 3) aj))) (bE (aW 5 (e2 gSub (aL (ax 1 (lR)) (aa (af 1) aj)) (dv P w CT 3 m_least_left (af 4) (aa (af 1) (aa (af 2) aj))))) (fun δ=>(aZ (z5 (aa (af 5) (aa (aL (ax 4 (dB P w CT m_least_left)) (aa (af 4) (aa (af 3) (aa (af 1) (aa (af 2) aj))))) aj)))) (frz 3 δ)))) (frz 3 δ))))
noncomputable def sq (P:Program) (w:World) (C:Addr) (CT:Addr) (J9:Addr) (Kb:Addr) (fM:PyData->Option Int) (UM:List PyData) (m_least_left:List DV->M DV):List DV->M DV:=eG ["house", "hand", "jokers", "playable", "table", "greatest"] (tF P w C CT J9 Kb fM UM m_least_left)
noncomputable def iM (P:Program) (w:World) (C:Addr) (CT:Addr) (J9:Addr) (Kb:Addr) (fM:PyData->Option Int) (UM:List PyData) (m_covers:List DV->M DV):DS->M Out:=(bE (kJ (aL (bq 3 (bG C J9)) (aa (af 0) (aa (af 1) (aa (af 2) aj))))) (aZ (dv P w CT 3 m_covers (aL (EB P w CT fM UM) (aa (aL (bq 3 (bc C Kb)) (aa (af 0) (aa (af 1) (aa (af 2) aj)))) aj)) (aa (af 1) (aa (af 2) aj)))))
noncomputable def kU (P:Program) (w:World) (C:Addr) (CT:Addr) (J9:Addr) (Kb:Addr) (fM:PyData->Option Int) (UM:List PyData) (m_covers:List DV->M DV):List DV->M DV:=eG ["house", "hand", "jokers"] (iM P w C CT J9 Kb fM UM m_covers)
noncomputable def j1 (P:Program) (w:World) (C:Addr) (CT:Addr) (J9:Addr) (Kb:Addr) (fM:PyData->Option Int) (UM:List PyData) (m_covers:List DV->M DV):DS->M Out:=(bE (kJ (aL (bq 3 (bG C J9)) (aa (af 0) (aa (af 1) (aa (af 2) aj))))) (bE (fQ (fun δ=>bd (e2 (g7 false) (aL dF (aa (af 1) aj)) (eC (.int 12)) δ) bI) (aZ (cC aj)) bP) (bE (aW 3 (aL (EB P w CT fM UM) (aa (aL (bq 3 (bc C Kb)) (aa (af 0) (aa (af 1) (aa (e2 aH (af 2) (eC (.int 1))) aj)))) aj))) (bE (aW 4 (bb 1 [1] (kG (aL (ax 1 (fV C)) (aa (af 0) aj))) (ar 0) (fun δ=>bd (e2 fJ (iO (af 1) (af 0)) (eC (.int 2)) δ) bI) (af 0))) (fun δ=>(aZ (bb 1 [2,3,1] (kG (af 4)) (ar 0) (fun δ=>bd ((dv P w CT 3 m_covers (af 2) (aa (aL kY (aa (e2 aH (af 3) (cC (aa (af 0) aj))) aj)) (aa (af 1) aj))) δ) bI) (af 0))) (frz 4 δ))))))
noncomputable def mM (P:Program) (w:World) (C:Addr) (CT:Addr) (J9:Addr) (Kb:Addr) (fM:PyData->Option Int) (UM:List PyData) (m_covers:List DV->M DV):List DV->M DV:=eG ["house", "hand", "jokers", "table", "room"] (j1 P w C CT J9 Kb fM UM m_covers)
theorem CC (ps:List Tl) (hl:ps.length<=1000):lR [.d (.list (ps.map pr))]=rt (.d (.int ((ps.map (·.1)).sum))):=by
 unfold lR xM
 refine dH (x:=.d (.int ((ps.map (·.1)).sum))) (bC ?_)
 refine (cj (bh (bp (xs:=ps.map pr) (gd rfl) (by rw [List.length_map]; lia) (dq (g:=fun p=>PyData.int p.1) fun p _=>?_)))).trans ?_
 ·exact (au (x:=.d (pr p)) (y:=.d (.int 0)) rfl rfl).trans (aK rfl)
 ·unfold C1
  simp only [mj,aR,aE]
  rw [show (ps.map fun p=>PyData.int p.1)=(ps.map (·.1)).map PyData.int by rw [List.map_map]; rfl,qX]
  rfl
theorem FN (r:List Tl) (p:Tl):((r.map pr).any fun z=>PyData.eqv z (pr p))=decide (p∈r):=by
 induction r with
 |nil=>rfl
 |cons q r ih=>
  rw [List.map_cons,List.any_cons,ih,lz]
  by_cases h:q=p
  ·subst h; simp
  ·have:p≠q:=fun e=>h e.symm
   simp [h,this]
theorem ua (r:List Tl) (p:Tl):yX false (.d (pr p)) (.own (r.map pr))=rt (.d (.bool (decide (p∈r)))):=by
 unfold yX
 show (if (pr p).depth<=60 then _ else none)=_
 rw [if_pos (show (pr p).depth<=60 from (by decide:1<=60))]
 show rt (DV.d (.bool ((r.map pr).any fun z=>PyData.eqv z (pr p))))=_
 rw [FN]
theorem xE (p:Tl):∀r:List Tl,(r.map pr).findIdx? (fun z=>PyData.eqv z (pr p))=r.findIdx? (·==p)
 |[]=>rfl
 |q::r=>by
  rw [List.map_cons,List.findIdx?_cons,List.findIdx?_cons,xE p r,lz]
  by_cases h:q=p
  ·subst h; simp
  ·have:(q==p)=false:=by simpa using h
   rw [this,decide_eq_false h]
theorem mf {α β:Type} (f:α->β):∀(l:List α) (b:Nat),(l.map f).eraseIdx b=(l.eraseIdx b).map f
 |[],_=>rfl
 |_::_,0=>rfl
 |x::l,b+1=>by
  show f x::(l.map f).eraseIdx b=f x::(l.eraseIdx b).map f
  rw [mf f l b]
theorem vk {p:Tl}:∀{r:List Tl},p∈r->∃j,r.findIdx? (·==p)=some j/\r.eraseIdx j=r.erase p
 |q::r,h=>by
  rw [List.findIdx?_cons,List.erase_cons]
  by_cases hq:q=p
  ·subst hq
   exact ⟨0,0x4,0x4⟩
  ·have hb:(q==p)=false:=by simpa using hq
   obtain ⟨j,e1,e2⟩:=vk ((List.mem_cons.mp h).resolve_left fun e=>hq e.symm)
   refine ⟨j+1,by rw [hb,e1]; rfl,?_⟩
   rw [hb]
   show q::r.eraseIdx j=_
   rw [e2]
   rfl
noncomputable def oδ (hand:List Tl) (j:Int) (need r:List Tl) (x4 x5:Option DV):DS:=[some (.d (.list (hand.map pr))),some (.d (.int j)),some (.d (.list (need.map pr))),some (.own (r.map pr)),x4,x5]
noncomputable def oB:DS->M Out:=(fQ (fun δ=>bd (e2 (yX false) (af 4) (af 3) δ) bI) (zt 3 (af 4)) bP)
theorem B0 (hand:List Tl) (j:Int) (need:List Tl) (hl:need.length<=1000):∃x4,du (ar 4) oB (need.map pr) (oδ hand j need hand none none)=rt (.nx (oδ hand j need (av hand need) x4 none)):=by
 obtain ⟨δ',e,x4,h⟩:=mS (f:=pr) (i:=4) (N:=1000) (B:=oB) (all:=need) (fun pre δ=>∃x4,δ=oδ hand j need (av hand pre) x4 none) (fun pre p δ hp hpre hI=>by
  obtain ⟨x4,rfl⟩:=hI
  have hla:av hand (pre++[p])=(av hand pre).erase p:=by unfold av; rw [List.foldl_append]; rfl
  refine ⟨oδ hand j need (av hand (pre++[p])) (some (.d (pr p))) none,?_,_,rfl⟩
  have ht:(fun δ=>bd (e2 (yX false) (af 4) (af 3) δ) bI) (oδ hand j need (av hand pre) (some (.d (pr p))) none)=rt (decide (p∈av hand pre)):=a8 ((au (x:=.d (pr p)) (y:=.own ((av hand pre).map pr)) rfl rfl).trans (ua _ _))
  unfold oB
  by_cases hin:p∈av hand pre
  ·rw [decide_eq_true hin] at ht
   refine JS ht ?_
   obtain ⟨i,e1,e2⟩:=vk hin
   show zt 3 (af 4) (oδ hand j need (av hand pre) (some (.d (pr p))) none)=_
   unfold zt
   show bd (rt (DV.d (pr p))) _=_
   rw [aE]
   show bd (rt (pr p)) _=_
   rw [aE,if_pos (show (pr p).depth<=60 from (by decide:1<=60)),xE,e1]
   show rt (Out.nx _)=_
   rw [mf,e2,<-hla]
   rfl
  ·rw [decide_eq_false hin] at ht
   refine CL ht ?_
   rw [hla,List.erase_of_not_mem hin]
   rfl) need [] _ (fun a ha=>ha) (by simpa using hl) ⟨none,rfl⟩
 rw [List.nil_append] at h
 subst h
 exact ⟨x4,e⟩
theorem j4 (hand:List Tl) (j:Int) (need:List Tl) (hl:need.length<=1000):bx [.d (.list (hand.map pr)),.d (.int j),.d (.list (need.map pr))]=rt (.nwt [] ((av hand need).map pr) [.int (j-((need.length:Int)-((hand.length:Int)-((av hand need).length:Int))))]):=by
 obtain ⟨x4,e⟩:=B0 hand j need hl
 unfold bx
 refine dH (x:=.tpo [] ((av hand need).map pr) [.int (j-((need.length:Int)-((hand.length:Int)-((av hand need).length:Int))))]) ?_
 unfold rA
 refine gf (δ':=oδ hand j need hand none none) (fC (x:=.new (hand.map pr)) ((cj (bh (x:=.d (.list (hand.map pr))) rfl)).trans rfl) rfl rfl) ?_
 refine gf (δ':=oδ hand j need (av hand need) x4 none) (jw (xs:=need.map pr) (gd rfl) e) ?_
 refine gf (δ':=oδ hand j need (av hand need) x4 (some (.d (.int ((hand.length:Int)-((av hand need).length:Int)))))) (fC (x:=.d (.int ((hand.length:Int)-((av hand need).length:Int)))) ?_ rfl rfl) ?_
 ·exact (au (x:=.d (.int (hand.length:Int))) (y:=.d (.int ((av hand need).length:Int))) ((cj (bh (x:=.d (.list (hand.map pr))) rfl)).trans (iq hand)) ((cj (bh (x:=.own ((av hand need).map pr)) rfl)).trans (lM _))).trans (dE _ _)
 ·refine bC ?_
  unfold Bm
  rw [bH (x:=.own ((av hand need).map pr)) (y:=.d (.int (j-((need.length:Int)-((hand.length:Int)-((av hand need).length:Int)))))) rfl ((au (x:=.d (.int j)) (y:=.d (.int ((need.length:Int)-((hand.length:Int)-((av hand need).length:Int))))) rfl ((au (x:=.d (.int (need.length:Int))) (y:=.d (.int ((hand.length:Int)-((av hand need).length:Int)))) ((cj (bh (x:=.d (.list (need.map pr))) rfl)).trans (iq need)) rfl).trans (dE _ _))).trans (dE _ _)),aE]
  rfl
theorem lN (C E:Addr) {m c j:Int} {ps:List Tl} (hl:ps.length<=1000) (hn:my m c ps j=true):bG C E [hs C m c,.d (.list (ps.map pr)),.d (.int j)]=rt (.d .none):=by
 have h:=GV C m c j ps hl
 rw [hn] at h
 unfold bG mh eG
 rw [CL (xR (a8 (bB (dG (x:=hs C m c) (y:=.d (.list (ps.map pr))) (z:=.d (.int j)) rfl rfl rfl) rfl rfl h)) rfl) rfl]
 rfl
theorem oY {α:Type} {f:α->D} {fe:DS->M DV} {δ:DS} {g:α->D}:∀{as:List α},(∀a∈as,∃y,fe (δ.set 0 (some (.d (f a))))=rt y/\vx y=some (g a))->cO (ar 0) bY fe δ (as.map f)=some (as.map g)
 |[],_=>rfl
 |a::r,h=>by
  obtain ⟨y,h1,h2⟩:=h a JZ
  have ih:=oY (f:=f) (g:=g) (fe:=fe) (δ:=δ) (as:=r) fun b hb=>h b (JY _ hb)
  rw [List.map_cons,List.map_cons,cO]
  simp only [ar,bY,rt] at h1 ⊢
  simp only [h1,h2,ih]
theorem eP {P:Program} {w:World} {CT:Addr} {n:Nat} {fm:List DV->M DV} {fo:DS->M DV} {fr:DS->M (List DV)} {δ:DS} {l:By} {f:PyData->Option Int} {U:List PyData} {ys zs:List DV} {x:DV} (h1:fo δ=rt (.fz (.tb P w CT l f U))) (h2:fr δ=rt ys) (h3:args ys=some zs) (h4:zs.length+1=n) (h5:fm (.fz (.tb P w CT l f U)::zs)=rt x):dv P w CT n fm fo fr δ=rt x:=by
 unfold dv
 rw [h1,aE,kd,aR,aE,h2,aE]
 unfold ax
 rw [gx,h3]
 show bd (rt (DV.fz (.tb P w CT l f U)::zs)) _=_
 rw [aE,if_pos (by rw [List.length_cons]; exact h4),h5]
 rfl
theorem Gg {P:Program} {w:World} {CT:Addr} {fo fe ff:DS->M DV} {δ:DS} {l:By} {f:PyData->Option Int} {U:List PyData} {t:Tl} (h1:fo δ=rt (.fz (.tb P w CT l f U))) (h2:fe δ=rt (.d (pr t))) (h3:ff δ=rt (.new [])):Dx P w CT fo fe ff δ=rt (.d (.list ((cU l t).map wD))):=by
 unfold Dx
 rw [h1,aE,kd,aR,aE,h2,aE]
 show bd (rt t) _=_
 rw [aE,h3]
 rfl
noncomputable def cZ (q:List Tl×Int):D:=.tuple [.list (q.1.map pr),.int q.2]
theorem Hd {α:Type} (x:α) (r:List α):atI (x::r) 0=some x:=by
 unfold atI Ci
 simp
structure Good (l:By):Prop where
 mem:∀t w,w∈cU l t->t∈w
 len:∀t w,w∈cU l t->w.length<=1000
 few:∀t,(cU l t).length<=800000
section
variable {P:Program} {w:World} {CT:Addr} {l:By} {f:PyData->Option Int} {U:List PyData}
theorem m_ways (g:Good l) (t:Tl) (r:List Tl) (j:Int):ju P w CT [.fz (.tb P w CT l f U),.d (.list ((t::r).map pr)),.d (.int j)]=rt (.new ((dg l (t::r) j).map cZ)):=by
 unfold ju
 refine dH (x:=.new ((dg l (t::r) j).map cZ)) ?_
 unfold zZ
 refine gf (δ':=[some (.fz (.tb P w CT l f U)),some (.d (.list ((t::r).map pr))),some (.d (.int j)),some (.own ((cU l t).map fun w=>cZ (av (t::r) w,jl (t::r) j w)))]) (fC (x:=.new ((cU l t).map fun w=>cZ (av (t::r) w,jl (t::r) j w))) ?_ rfl rfl) ?_
 ·refine bp (xs:=(cU l t).map wD) (gd (Gg (l:=l) (f:=f) (U:=U) (t:=t) rfl ((au (x:=.d (.list ((t::r).map pr))) (y:=.d (.int 0)) rfl rfl).trans (iY (Hd _ _))) rfl)) (by rw [List.length_map]; exact Nat.le_trans (g.few t) 0x3) ?_
  refine oY fun w' hw=>⟨_,bB (n:=3) (x:=.nwt [] ((av (t::r) w').map pr) [.int (jl (t::r) j w')]) (dG (x:=.d (.list ((t::r).map pr))) (y:=.d (.int j)) (z:=.d (.list (w'.map pr))) rfl rfl rfl) rfl rfl (j4 (t::r) j w' (g.len t w' hw)),rfl⟩
 ·show aZ _ [some (.fz (.tb P w CT l f U)),some (.d (.list ((t::r).map pr))),some (.d (.int j)),some (.d (.list ((cU l t).map fun w=>cZ (av (t::r) w,jl (t::r) j w))))]=_
  refine bC (bp (xs:=((cU l t).map fun w=>(av (t::r) w,jl (t::r) j w)).map cZ) (gd (by show rt _=rt _; rw [List.map_map]; rfl)) (by rw [List.length_map,List.length_map]; exact Nat.le_trans (g.few t) 0x3) ?_)
  refine (fG (f:=cZ) (b:=fun q=>decide (0<=q.2)) (g:=cZ) fun q _=>⟨a8 ((au (x:=.d (.int q.2)) (y:=.d (.int 0)) ((au (x:=.d (cZ q)) (y:=.d (.int 1)) rfl rfl).trans (aK rfl)) rfl).trans (iS _ _)),rfl⟩).trans ?_
  rfl
end
theorem ti {l:By} (g:Good l):∀(n m:Nat) (h:List Tl) (j:Int),h.length<=n->h.length<=m->LL l n h j=LL l m h j
 |n,m,[],j,_,_=>by cases n <;> cases m <;> rfl
 |0,_,t::r,j,h,_=>by simp at h
 |_+1,0,t::r,j,_,h=>by simp at h
 |n+1,m+1,t::r,j,h1,h2=>by
  rw [List.length_cons] at h1 h2
  show xg ((t.1+LL l n r j)::(dg l (t::r) j).map fun q=>LL l n q.1 q.2)=xg ((t.1+LL l m r j)::(dg l (t::r) j).map fun q=>LL l m q.1 q.2)
  rw [ti g n m r j 0x1 0x1]
  congr 2
  refine List.map_congr_left fun q hq=>?_
  obtain ⟨w,hw,rfl,_⟩:=lV hq
  have:=gy (r:=r) (g.mem t w hw)
  exact ti g n m _ _ (by show (av (t::r) w).length<=n; lia) (by show (av (t::r) w).length<=m; lia)
noncomputable def ck (l:By) (h:List Tl) (j:Int):Int:=LL l h.length h j
theorem Ez (l:By) (j:Int):ck l [] j=0:=rfl
theorem lC {l:By} (g:Good l) (t:Tl) (r:List Tl) (j:Int):ck l (t::r) j=xg ((t.1+ck l r j)::(dg l (t::r) j).map fun q=>ck l q.1 q.2):=by
 show xg ((t.1+LL l r.length r j)::(dg l (t::r) j).map fun q=>LL l r.length q.1 q.2)=_
 congr 2
 refine List.map_congr_left fun q hq=>?_
 obtain ⟨w,hw,rfl,_⟩:=lV hq
 exact ti g _ _ _ _ (gy (g.mem t w hw)) (J5 _)
noncomputable def kD (h:List Tl) (j:Int):D:=.tuple [.tuple (h.map pr),.int j]
noncomputable def fK (l:By) (k:D):Option Int:=match k with
 |.tuple [.tuple ts,.int j]=>(bW ts).map fun h=>ck l h j
 |_=>none
theorem Hl (l:By) (h:List Tl) (j:Int):fK l (kD h j)=some (ck l h j):=by
 show (bW (h.map pr)).map _=_
 rw [show bW (h.map pr)=some h from eE h]; rfl
theorem FW (h:List Tl) (j:Int):cQ (kD h j)=true/\(kD h j).depth<=6:=by
 have k1:∀h:List Tl,fx (h.map pr)=true:=fun h=>by
  induction h with
  |nil=>rfl
  |cons t r ih=>rw [List.map_cons,fx,ih]; rfl
 have k2:∀h:List Tl,PyData.depthAll (h.map pr)<=1:=fun h=>by
  induction h with
  |nil=>decide
  |cons t r ih=>
   rw [List.map_cons,PyData.depthAll]
   have:(pr t).depth=1:=rfl
   lia
 have:=k2 h
 refine ⟨?_,?_⟩
 ·show (fx (h.map pr)&&true)=true
  rw [k1]; rfl
 ·show max (PyData.depthAll (h.map pr)+1) (max 0 0)+1<=6
  lia
structure Cnd (l:By) (f:PyData->Option Int) (U:List PyData) (h:List Tl) (j:Int):Prop where
 good:Good l
 fn:f=fK l
 few:U.length<=1000000
 mem:∀h',h'.Sublist h->∀j',0<=j'->j'<=j->kD h' j'∈U
 j0:0<=j
theorem Cnd.sub {l:By} {f:PyData->Option Int} {U:List PyData} {h h':List Tl} {j j':Int} (c:Cnd l f U h j) (hs:h'.Sublist h) (h0:0<=j') (hj:j'<=j):Cnd l f U h' j':=
 ⟨c.good,c.fn,c.few,fun a ha b b0 hb=>c.mem a (ha.trans hs) b b0 (Int.le_trans hb hj),h0⟩
open Classical in
noncomputable def kq (P:Program) (w:World) (CT:Addr) (n:Nat) (xs:List DV):M DV:=match xs with
 |[x,.d (.list ts),.d (.int j)]=>bd (op (lx P w CT x)) fun q=>bd (op (bW ts)) fun h=>if Cnd q.1 q.2.1 q.2.2 h j/\h.length<=n then rt (.d (.int (ck q.1 h j))) else none
 |_=>none
open Classical in
noncomputable def AS (P:Program) (w:World) (CT:Addr) (n:Nat) (xs:List DV):M DV:=match xs with
 |[x,.d (.list ts),.d (.int j)]=>bd (op (lx P w CT x)) fun q=>bd (op (bW ts)) fun h=>if Cnd q.1 q.2.1 q.2.2 h j/\h.length<=n+1/\h≠[] then rt (.d (.int (ck q.1 h j))) else none
 |_=>none
section
variable {P:Program} {w:World} {CT:Addr} {l:By} {f:PyData->Option Int} {U:List PyData}
theorem As {n:Nat} {h:List Tl} {j:Int} (c:Cnd l f U h j) (hn:h.length<=n):kq P w CT n [.fz (.tb P w CT l f U),.d (.list (h.map pr)),.d (.int j)]=rt (.d (.int (ck l h j))):=by
 show bd (op (lx P w CT _)) _=_
 rw [kd,aR,aE]
 show bd (op (bW (h.map pr))) _=_
 rw [show bW (h.map pr)=some h from eE h,aR,aE]
 exact if_pos ⟨c,hn⟩
theorem EO {n:Nat} {xs:List DV} {x:DV} (e:kq P w CT n xs=some (.ok x)):∃l f U h j,xs=[.fz (.tb P w CT l f U),.d (.list (h.map pr)),.d (.int j)]/\Cnd l f U h j/\h.length<=n/\x=.d (.int (ck l h j)):=by
 unfold kq at e
 split at e
 ·rename_i y ts j
  obtain ⟨⟨l,f,U⟩,e0,e1⟩:=bt e
  have hy:=gw e0
  subst hy
  obtain ⟨h,e2,e3⟩:=bt e1
  have ht:=ig e2
  subst ht
  split at e3
  ·rename_i c
   cases e3
   exact ⟨l,f,U,h,j,rfl,c.1,c.2,rfl⟩
  ·cases e3
 ·cases e
theorem HP {n:Nat} {t:Tl} {r:List Tl} {j:Int} (c:Cnd l f U (t::r) j) (hn:(t::r).length<=n+1):AS P w CT n [.fz (.tb P w CT l f U),.d (.list ((t::r).map pr)),.d (.int j)]=rt (.d (.int (ck l (t::r) j))):=by
 show bd (op (lx P w CT _)) _=_
 rw [kd,aR,aE]
 show bd (op (bW ((t::r).map pr))) _=_
 rw [show bW ((t::r).map pr)=some (t::r) from eE _,aR,aE]
 exact if_pos ⟨c,hn,0x4⟩
theorem Ho {n:Nat} {xs:List DV} {x:DV} (e:AS P w CT n xs=some (.ok x)):∃l f U t r j,xs=[.fz (.tb P w CT l f U),.d (.list ((t::r).map pr)),.d (.int j)]/\Cnd l f U (t::r) j/\(t::r).length<=n+1/\x=.d (.int (ck l (t::r) j)):=by
 unfold AS at e
 split at e
 ·rename_i y ts j
  obtain ⟨⟨l,f,U⟩,e0,e1⟩:=bt e
  have hy:=gw e0
  subst hy
  obtain ⟨h,e2,e3⟩:=bt e1
  have ht:=ig e2
  subst ht
  split at e3
  ·rename_i c
   cases e3
   cases h with
   |nil=>exact absurd rfl c.2.2
   |cons t r=>exact ⟨l,f,U,t,r,j,rfl,c.1,c.2.1,rfl⟩
  ·cases e3
 ·cases e
theorem nC {ms:List DV->M DV} {x:DV} (j:Int):cY P w CT ms [x,.d (.list []),.d (.int j)]=rt (.d (.int 0)):=by
 unfold cY
 refine dH (x:=.d (.int 0)) ?_
 unfold iV
 rfl
theorem Dj (xs:List D):yj [.d (.list xs)]=rt (.d (.tuple xs)):=rfl
theorem sX {ms:List DV->M DV} {t:Tl} {r:List Tl} {j:Int} (c:Cnd l f U (t::r) j) (hs:ms [.fz (.tb P w CT l f U),.d (.list ((t::r).map pr)),.d (.int j)]=rt (.d (.int (ck l (t::r) j)))):cY P w CT ms [.fz (.tb P w CT l f U),.d (.list ((t::r).map pr)),.d (.int j)]=rt (.d (.int (ck l (t::r) j))):=by
 unfold cY
 refine dH (x:=.d (.int (ck l (t::r) j))) ?_
 unfold iV
 refine gf (δ':=[some (.fz (.tb P w CT l f U)),some (.d (.list ((t::r).map pr))),some (.d (.int j)),none]) rfl ?_
 refine gf (δ':=[some (.fz (.tb P w CT l f U)),some (.d (.list ((t::r).map pr))),some (.d (.int j)),some (.d (kD (t::r) j))]) (fC (x:=.d (kD (t::r) j)) ?_ rfl rfl) ?_
 ·unfold bf
  rw [bH (x:=.d (.tuple ((t::r).map pr))) (y:=.d (.int j)) ((cj (bh (x:=.d (.list ((t::r).map pr))) rfl)).trans (Dj _)) rfl]
  rfl
 ·unfold yE
  show bd (op (lx P w CT (.fz (.tb P w CT l f U)))) _=_
  rw [kd,aR,aE]
  show bd (op (f (kD (t::r) j))) _=_
  rw [c.fn,Hl,aR,aE]
  have hk:=FW (t::r) j
  refine if_pos ⟨hk.1,hk.2,c.mem _ (List.Sublist.refl _) j c.j0 (Int.le_refl _),c.few,?_⟩
  exact eP (l:=l) (f:=fK l) (U:=U) (ys:=[.d (.list ((t::r).map pr)),.d (.int j)]) rfl (bH rfl rfl) rfl rfl (by rw [<-c.fn]; exact hs)
noncomputable def sδ (P:Program) (w:World) (CT:Addr) (l:By) (f:PyData->Option Int) (U:List PyData) (h:List Tl) (j:Int) (ns:List Int) (x4 x5:Option DV):DS:=[some (.fz (.tb P w CT l f U)),some (.d (.list (h.map pr))),some (.d (.int j)),some (.own (ns.map PyData.int)),x4,x5]
theorem u0 {ml:List DV->M DV} {h:List Tl} {j:Int} (g:List Tl×Int->Int):∀(qs:List (List Tl×Int)) (ns:List Int) (x4 x5:Option DV),(∀q∈qs,ml [.fz (.tb P w CT l f U),.d (.list (q.1.map pr)),.d (.int q.2)]=rt (.d (.int (g q))))->ns.length+qs.length<=900000 ->
  ∃y4 y5,du (kn 2 (cm (ar 4) (cm (ar 5) kM))) (kr 3 (dv P w CT 3 ml (af 0) (aa (af 4) (aa (af 5) aj)))) (qs.map cZ) (sδ P w CT l f U h j ns x4 x5)=rt (.nx (sδ P w CT l f U h j (ns++qs.map g) y4 y5))
 |[],ns,x4,x5,_,_=>⟨x4,x5,by rw [List.map_nil,List.map_nil,List.append_nil]; rfl⟩
 |q::qs,ns,x4,x5,hq,hl=>by
  rw [List.length_cons] at hl
  obtain ⟨y4,y5,ih⟩:=u0 (h:=h) (j:=j) g qs (ns++[g q]) (some (.d (.list (q.1.map pr)))) (some (.d (.int q.2))) (fun z hz=>hq z (JY _ hz)) (by rw [List.length_append,List.length_singleton]; lia)
  refine ⟨y4,y5,?_⟩
  rw [List.map_cons,du]
  have e0:kn 2 (cm (ar 4) (cm (ar 5) kM)) (cZ q) (sδ P w CT l f U h j ns x4 x5)=some (sδ P w CT l f U h j ns (some (.d (.list (q.1.map pr)))) (some (.d (.int q.2)))):=rfl
  rw [e0,aR,aE]
  have e1:kr 3 (dv P w CT 3 ml (af 0) (aa (af 4) (aa (af 5) aj))) (sδ P w CT l f U h j ns (some (.d (.list (q.1.map pr)))) (some (.d (.int q.2))))=rt (.nx (sδ P w CT l f U h j (ns++[g q]) (some (.d (.list (q.1.map pr)))) (some (.d (.int q.2))))):=by
   unfold kr
   show bd (dv P w CT 3 ml (af 0) (aa (af 4) (aa (af 5) aj)) (sδ P w CT l f U h j ns (some (.d (.list (q.1.map pr)))) (some (.d (.int q.2))))) _=_
   have em:dv P w CT 3 ml (af 0) (aa (af 4) (aa (af 5) aj)) (sδ P w CT l f U h j ns (some (.d (.list (q.1.map pr)))) (some (.d (.int q.2))))=rt (.d (.int (g q))):=eP (l:=l) (f:=f) (U:=U) (ys:=[.d (.list (q.1.map pr)),.d (.int q.2)]) rfl (bH rfl rfl) rfl rfl (hq q JZ)
   rw [em,aE]
   show bd (rt (PyData.int (g q))) _=_
   rw [aE,if_pos (by rw [List.length_map]; lia)]
   unfold sδ
   rw [List.map_append]
   rfl
  rw [e1,aE,lq,ih,List.append_assoc]
  rfl
theorem AG {ml:List DV->M DV} {t:Tl} {r:List Tl} {j:Int} (c:Cnd l f U (t::r) j)
  (h1:ml [.fz (.tb P w CT l f U),.d (.list (r.map pr)),.d (.int j)]=rt (.d (.int (ck l r j)))) (h2:∀q∈dg l (t::r) j,ml [.fz (.tb P w CT l f U),.d (.list (q.1.map pr)),.d (.int q.2)]=rt (.d (.int (ck l q.1 q.2))))
  (hfew:(dg l (t::r) j).length<=800000):eN P w CT (ju P w CT) ml [.fz (.tb P w CT l f U),.d (.list ((t::r).map pr)),.d (.int j)]=rt (.d (.int (ck l (t::r) j))):=by
 obtain ⟨y4,y5,e⟩:=u0 (P:=P) (w:=w) (CT:=CT) (l:=l) (f:=f) (U:=U) (ml:=ml) (h:=t::r) (j:=j) (fun q=>ck l q.1 q.2) (dg l (t::r) j) [t.1+ck l r j] none none h2 (by rw [List.length_singleton]; lia)
 unfold eN
 refine dH (x:=.d (.int (ck l (t::r) j))) ?_
 unfold jZ
 refine gf (δ':=sδ P w CT l f U (t::r) j [t.1+ck l r j] none none) (fC (x:=.new [.int (t.1+ck l r j)]) ?_ rfl rfl) ?_
 ·unfold cC
  rw [bh (x:=.d (.int (t.1+ck l r j))) ?_]
  ·rfl
  ·refine (au (x:=.d (.int t.1)) (y:=.d (.int (ck l r j))) ?_ ?_).trans (b9 _ _)
   ·exact (au (x:=.d (pr t)) (y:=.d (.int 0)) ((au (x:=.d (.list ((t::r).map pr))) (y:=.d (.int 0)) rfl rfl).trans (iY (Hd _ _))) rfl).trans (aK rfl)
   ·refine eP (l:=l) (f:=f) (U:=U) (ys:=[.new (r.map pr),.d (.int j)]) rfl (bH ?_ rfl) rfl rfl h1
    show rt (DV.new (lU ((t::r).map pr) (some 1) none))=_
    have:lU ((t::r).map pr) (some 1) none=r.map pr:=by
     unfold lU HT.sIx
     simp
     exact List.take_of_length_le 0x4
    rw [this]
 ·refine gf (δ':=sδ P w CT l f U (t::r) j ([t.1+ck l r j]++(dg l (t::r) j).map fun q=>ck l q.1 q.2) y4 y5) (jw (xs:=(dg l (t::r) j).map cZ) (sQ (eP (l:=l) (f:=f) (U:=U) (ys:=[.d (.list ((t::r).map pr)),.d (.int j)]) rfl (bH rfl rfl) rfl rfl (m_ways c.good t r j))) e) ?_
  refine bC ((cj (bh rfl)).trans ?_)
  unfold xG
  simp only [mj,aR,aE]
  rw [qX,aR,aE,if_pos 0x4,lC c.good]
  rfl
theorem u1 {t:Tl} {r:List Tl} {j:Int} {q:List Tl×Int} (c:Cnd l f U (t::r) j) (h:q∈dg l (t::r) j):Cnd l f U q.1 q.2/\q.1.length<=r.length:=by
 obtain ⟨w,hw,rfl,h0⟩:=lV h
 exact ⟨c.sub (cg _ _) h0 (nA _ _ _),gy (c.good.mem t w hw)⟩
theorem B7 (g:Good l) (t:Tl) (r:List Tl) (j:Int):(dg l (t::r) j).length<=800000:=
 Nat.le_trans (List.length_filter_le _ _) (by rw [List.length_map]; exact g.few t)
theorem DD {n:Nat} {xs:List DV} {x:DV} (e:AS P w CT n xs=some (.ok x)):eN P w CT (ju P w CT) (kq P w CT n) xs=some (.ok x):=by
 obtain ⟨l,f,U,t,r,j,rfl,c,hl,rfl⟩:=Ho e
 rw [List.length_cons] at hl
 exact AG c (As (c.sub (List.sublist_cons_self t r) c.j0 (Int.le_refl _)) 0x1) (fun q hq=>As (u1 c hq).1 (by have:=(u1 c hq).2; lia)) (B7 c.good t r j)
theorem Dy {n:Nat} {xs:List DV} {x:DV} (e:kq P w CT (n+1) xs=some (.ok x)):cY P w CT (AS P w CT n) xs=some (.ok x):=by
 obtain ⟨l,f,U,h,j,rfl,c,hl,rfl⟩:=EO e
 cases h with
 |nil=>exact nC j
 |cons t r=>exact sX c (HP c hl)
theorem Et {xs:List DV} {x:DV} (e:kq P w CT 0 xs=some (.ok x)):cY P w CT (fun _=>none) xs=some (.ok x):=by
 obtain ⟨l,f,U,h,j,rfl,c,hl,rfl⟩:=EO e
 cases h with
 |nil=>exact nC j
 |cons t r=>simp at hl
end
noncomputable def ny (m c:Nat) (h:List Tl) (j:Int):List Ml:=(vt m c).filter fun y=>decide (0<=jl h j (tl y))
noncomputable def kh (y:Ml):D:=.tuple [md y,.list ((tl y).map pr)]
theorem yv {m c:Nat} (hm:m<=13) (h4:c<=4):(vt m c).length<=1000:=by
 have h1:(vt m c).length=(gD m c).length:=by rw [<-vN,List.length_map]
 have h2:=nh (ot c) m
 have h3:=rK m c hm
 unfold gD at h1
 rw [List.length_append] at h1
 have:169*c<=169*4:=Nat.mul_le_mul_left _ h4
 lia
theorem lp (C E:Addr) {m c:Nat} (hm:m<=13) (h1:1<=c) (h4:c<=4) (h:List Tl) (j:Int):bc C E [hs C m c,.d (.list (h.map pr)),.d (.int j)]=rt (.new ((ny m c h j).map kh)):=by
 have hl:=yv hm h4
 unfold bc
 refine dH (x:=.new ((ny m c h j).map kh)) ?_
 unfold iD
 refine gf (δ':=[some (hs C m c),some (.d (.list (h.map pr))),some (.d (.int j)),some (.own ((vt m c).map kh))]) (fC (x:=.new ((vt m c).map kh)) ?_ rfl rfl) ?_
 ·refine bp (xs:=(vt m c).map md) (sQ (bB (n:=1) (x:=.new ((vt m c).map md)) (bh (x:=hs C m c) rfl) rfl rfl (by rw [vN]; exact Ct C m c hm h1 h4))) (by rw [List.length_map]; lia) ?_
  refine oY fun y hy=>?_
  obtain ⟨ok,oy⟩:=Ae hm h1 h4 hy
  have ht:=ok.tiles C E
  rw [if_pos oy] at ht
  refine ⟨.d (kh y),?_,rfl⟩
  unfold bf
  rw [bH (x:=.d (md y)) (y:=.new ((tl y).map pr)) rfl (bT (n:=2) (bH (x:=hs C m c) (y:=.d (md y)) rfl rfl) rfl rfl ht)]
  rfl
 ·show aZ _ [some (hs C m c),some (.d (.list (h.map pr))),some (.d (.int j)),some (.d (.list ((vt m c).map kh)))]=_
  refine bC (bp (xs:=(vt m c).map kh) (gd rfl) (by rw [List.length_map]; lia) ?_)
  refine fG (f:=kh) (b:=fun y=>decide (0<=jl h j (tl y))) (g:=kh) fun y hy=>⟨?_,rfl⟩
  have hw:(tl y).length<=1000:=by
   have:=(pq hm h1 h4 (w:=tl y) (List.mem_map.mpr ⟨y,hy,rfl⟩)).2
   lia
  refine a8 ((au (x:=.d (.int (jl h j (tl y)))) (y:=.d (.int 0)) ?_ rfl).trans (iS _ _))
  refine (au (x:=.d (cZ (av h (tl y),jl h j (tl y)))) (y:=.d (.int 1)) ?_ rfl).trans (aK rfl)
  unfold kZ
  rw [bB (n:=3) (x:=.nwt [] ((av h (tl y)).map pr) [.int (jl h j (tl y))]) (dG (x:=.d (.list (h.map pr))) (y:=.d (.int j)) (z:=.d (.list ((tl y).map pr))) rfl rfl ((au (x:=.d (kh y)) (y:=.d (.int 1)) rfl rfl).trans (aK rfl))) rfl rfl (j4 h j (tl y) hw)]
  rfl
noncomputable def fy (l:By) (goal:Int) (w:List Tl):Nat->List Tl->Int->List Tl×Int×Nat
 |0,r,j=>(r,j,0)
 |n+1,r,j=>if 0<=jl r j w/\ck l (av r w) (jl r j w)=goal then ((fy l goal w n (av r w) (jl r j w)).1,(fy l goal w n (av r w) (jl r j w)).2.1,(fy l goal w n (av r w) (jl r j w)).2.2+1) else (r,j,0)
noncomputable def uf (l:By) (goal:Int):List Ml->List Tl->Int->List Ml
 |[],_,_=>[]
 |y::ys,r,j=>List.replicate (fy l goal (tl y) 100 r j).2.2 y++uf l goal ys (fy l goal (tl y) 100 r j).1 (fy l goal (tl y) 100 r j).2.1
section
variable {P:Program} {w:World} {CT:Addr} {l:By} {f:PyData->Option Int} {U:List PyData} {ml:List DV->M DV}
noncomputable def fδ (P:Program) (w:World) (CT:Addr) (l:By) (f:PyData->Option Int) (U:List PyData) (ps:List D) (h:List Tl) (j0 goal:Int) (acc:List D) (r:List Tl) (j:Int) (x8 x9 x10:Option DV):DS:=
 [some (.fz (.tb P w CT l f U)),some (.d (.list ps)),some (.d (.list (h.map pr))),some (.d (.int j0)),some (.d (.int goal)),some (.own acc),some (.d (.list (r.map pr))),some (.d (.int j)),x8,x9,x10]
noncomputable def F5 (P:Program) (w:World) (CT:Addr) (ml:List DV->M DV):DS->M Bool:=(jo (fun δ=>bd (e2 Cg (e2 bN (af 10) (eC (.int 1))) (eC (.int 0)) δ) bI) (fun δ=>bd (e2 (g7 false) (dv P w CT 3 ml (af 0) (aa (e2 bN (af 10) (eC (.int 0))) (aa (e2 bN (af 10) (eC (.int 1))) aj))) (af 4) δ) bI))
noncomputable def G2:DS->M Out:=(bE (kr 5 (af 8)) (bE (aW 6 (e2 bN (af 10) (eC (.int 0)))) (bE (aW 7 (e2 bN (af 10) (eC (.int 1)))) (aW 10 (kZ (aL (ax 3 (bx)) (aa (af 6) (aa (af 7) (aa (af 9) aj)))))))))
theorem yg {ps:List D} {h:List Tl} {j0 goal:Int} {acc:List D} {r:List Tl} {j:Int} {x8 x10:Option DV} {y:List Tl} (hy:y.length<=1000):kZ (aL (ax 3 (bx)) (aa (af 6) (aa (af 7) (aa (af 9) aj)))) (fδ P w CT l f U ps h j0 goal acc r j x8 (some (.d (.list (y.map pr)))) x10)=rt (.d (cZ (av r y,jl r j y))):=by
 unfold kZ
 rw [bB (n:=3) (x:=.nwt [] ((av r y).map pr) [.int (jl r j y)]) (dG (x:=.d (.list (r.map pr))) (y:=.d (.int j)) (z:=.d (.list (y.map pr))) rfl rfl rfl) rfl rfl (j4 r j y hy)]
 rfl
theorem qa {r y:List Tl} {j:Int} (h0:0<=jl r j y) (hj:j<=2) (hy:3<=y.length):(av r y).length<r.length:=by
 have:=lJ y r
 unfold jl at h0
 lia
theorem E6 {ps:List D} {h:List Tl} {j0 goal:Int} {y:List Tl} {d:D} (hy:y.length<=1000) (hy3:3<=y.length) (hm:∀h' j',Cnd l f U h' j'->h'.length<=12->ml [.fz (.tb P w CT l f U),.d (.list (h'.map pr)),.d (.int j')]=rt (.d (.int (ck l h' j')))) :
  ∀(n:Nat) (r:List Tl) (j:Int) (acc:List D),r.length<n->r.length<=12->j<=2->Cnd l f U r j->acc.length+r.length<=1000 ->
   ∃q,zE (F5 P w CT ml) G2 n (fδ P w CT l f U ps h j0 goal acc r j (some (.d d)) (some (.d (.list (y.map pr)))) (some (.d (cZ (av r y,jl r j y)))))=rt (.nx (fδ P w CT l f U ps h j0 goal (acc++List.replicate (fy l goal y n r j).2.2 d) (fy l goal y n r j).1 (fy l goal y n r j).2.1 (some (.d d)) (some (.d (.list (y.map pr)))) q))
 |0,r,j,acc,hn,_,_,_,_=>by lia
 |n+1,r,j,acc,hn,hr,hj,c,ha=>by
  have t1:(fun δ=>bd (e2 Cg (e2 bN (af 10) (eC (.int 1))) (eC (.int 0)) δ) bI) (fδ P w CT l f U ps h j0 goal acc r j (some (.d d)) (some (.d (.list (y.map pr)))) (some (.d (cZ (av r y,jl r j y)))))=rt (decide (0<=jl r j y)):=
   a8 ((au (x:=.d (.int (jl r j y))) (y:=.d (.int 0)) ((au (x:=.d (cZ (av r y,jl r j y))) (y:=.d (.int 1)) rfl rfl).trans (aK rfl)) rfl).trans (iS _ _))
  have stop:F5 P w CT ml (fδ P w CT l f U ps h j0 goal acc r j (some (.d d)) (some (.d (.list (y.map pr)))) (some (.d (cZ (av r y,jl r j y)))))=rt false->fy l goal y (n+1) r j=(r,j,0)->∃q,zE (F5 P w CT ml) G2 (n+1) (fδ P w CT l f U ps h j0 goal acc r j (some (.d d)) (some (.d (.list (y.map pr)))) (some (.d (cZ (av r y,jl r j y)))))=rt (.nx (fδ P w CT l f U ps h j0 goal (acc++List.replicate (fy l goal y (n+1) r j).2.2 d) (fy l goal y (n+1) r j).1 (fy l goal y (n+1) r j).2.1 (some (.d d)) (some (.d (.list (y.map pr)))) q)):=fun e1 e2=>by
   refine ⟨some (.d (cZ (av r y,jl r j y))),?_⟩
   rw [e2,zE,e1,aE,if_neg 0x3]
   show _=rt (Out.nx (fδ P w CT l f U ps h j0 goal (acc++[]) r j _ _ _))
   rw [List.append_nil]
  by_cases h0:0<=jl r j y
  ·rw [decide_eq_true h0] at t1
   have cs:Cnd l f U (av r y) (jl r j y):=c.sub (cg _ _) h0 (nA _ _ _)
   have hlt:=qa h0 hj hy3
   have em:dv P w CT 3 ml (af 0) (aa (e2 bN (af 10) (eC (.int 0))) (aa (e2 bN (af 10) (eC (.int 1))) aj)) (fδ P w CT l f U ps h j0 goal acc r j (some (.d d)) (some (.d (.list (y.map pr)))) (some (.d (cZ (av r y,jl r j y)))))=rt (.d (.int (ck l (av r y) (jl r j y)))):=
    eP (l:=l) (f:=f) (U:=U) (ys:=[.d (.list ((av r y).map pr)),.d (.int (jl r j y))]) rfl (bH ((au (x:=.d (cZ (av r y,jl r j y))) (y:=.d (.int 0)) rfl rfl).trans (aK rfl)) ((au (x:=.d (cZ (av r y,jl r j y))) (y:=.d (.int 1)) rfl rfl).trans (aK rfl))) rfl rfl (hm _ _ cs 0x1)
   have t2:F5 P w CT ml (fδ P w CT l f U ps h j0 goal acc r j (some (.d d)) (some (.d (.list (y.map pr)))) (some (.d (cZ (av r y,jl r j y)))))=rt (ck l (av r y) (jl r j y)==goal):=by
    unfold F5
    exact xJ t1 (a8 ((au (x:=.d (.int (ck l (av r y) (jl r j y)))) (y:=.d (.int goal)) em rfl).trans (i8 _ _)))
   by_cases he:ck l (av r y) (jl r j y)=goal
   ·have hb:(ck l (av r y) (jl r j y)==goal)=true:=by simpa using he
    rw [hb] at t2
    obtain ⟨q,ih⟩:=E6 (ps:=ps) (h:=h) (j0:=j0) (goal:=goal) (d:=d) hy hy3 hm n (av r y) (jl r j y) (acc++[d]) 0x1 0x1 (Int.le_trans (nA _ _ _) hj) cs (by rw [List.length_append,List.length_singleton]; lia)
    have ew:fy l goal y (n+1) r j=((fy l goal y n (av r y) (jl r j y)).1,(fy l goal y n (av r y) (jl r j y)).2.1,(fy l goal y n (av r y) (jl r j y)).2.2+1):=if_pos ⟨h0,he⟩
    refine ⟨q,?_⟩
    rw [ew,zE,t2,aE,if_pos rfl]
    have eb:G2 (fδ P w CT l f U ps h j0 goal acc r j (some (.d d)) (some (.d (.list (y.map pr)))) (some (.d (cZ (av r y,jl r j y)))))=rt (.nx (fδ P w CT l f U ps h j0 goal (acc++[d]) (av r y) (jl r j y) (some (.d d)) (some (.d (.list (y.map pr)))) (some (.d (cZ (av (av r y) y,jl (av r y) (jl r j y) y)))))):=by
     unfold G2
     refine gf (δ':=fδ P w CT l f U ps h j0 goal (acc++[d]) r j (some (.d d)) (some (.d (.list (y.map pr)))) (some (.d (cZ (av r y,jl r j y))))) (vS (xs:=acc) rfl rfl rfl 0x1) ?_
     refine gf (δ':=fδ P w CT l f U ps h j0 goal (acc++[d]) (av r y) j (some (.d d)) (some (.d (.list (y.map pr)))) (some (.d (cZ (av r y,jl r j y))))) (fC (x:=.d (.list ((av r y).map pr))) ((au (x:=.d (cZ (av r y,jl r j y))) (y:=.d (.int 0)) rfl rfl).trans (aK rfl)) rfl rfl) ?_
     refine gf (δ':=fδ P w CT l f U ps h j0 goal (acc++[d]) (av r y) (jl r j y) (some (.d d)) (some (.d (.list (y.map pr)))) (some (.d (cZ (av r y,jl r j y))))) (fC (x:=.d (.int (jl r j y))) ((au (x:=.d (cZ (av r y,jl r j y))) (y:=.d (.int 1)) rfl rfl).trans (aK rfl)) rfl rfl) ?_
     exact fC (x:=.d (cZ (av (av r y) y,jl (av r y) (jl r j y) y))) (yg hy) rfl rfl
    rw [eb,aE]
    show zE (F5 P w CT ml) G2 n _=_
    rw [ih,List.append_assoc]
    rfl
   ·have hb:(ck l (av r y) (jl r j y)==goal)=false:=by simpa using he
    rw [hb] at t2
    exact stop t2 (if_neg fun z=>he z.2)
  ·rw [decide_eq_false h0] at t1
   exact stop (Bj t1) (if_neg fun z=>h0 z.1)
theorem oG {goal:Int} {y:List Tl} (hy3:3<=y.length):∀(n:Nat) (r:List Tl) (j:Int),0<=j->j<=2->(fy l goal y n r j).1.Sublist r/\0<=(fy l goal y n r j).2.1/\(fy l goal y n r j).2.1<=j/\(fy l goal y n r j).2.2+(fy l goal y n r j).1.length<=r.length
 |0,r,j,h0,h2=>⟨List.Sublist.refl _,h0,Int.le_refl _,by show 0+r.length<=r.length; lia⟩
 |n+1,r,j,h0,h2=>by
  by_cases hc:0<=jl r j y/\ck l (av r y) (jl r j y)=goal
  ·have ew:fy l goal y (n+1) r j=((fy l goal y n (av r y) (jl r j y)).1,(fy l goal y n (av r y) (jl r j y)).2.1,(fy l goal y n (av r y) (jl r j y)).2.2+1):=if_pos hc
   obtain ⟨a,b,c,d⟩:=oG hy3 n (av r y) (jl r j y) hc.1 (Int.le_trans (nA _ _ _) h2)
   have:=qa hc.1 h2 hy3
   have hle:=nA r j y
   rw [ew]
   exact ⟨a.trans (cg _ _),b,by show (fy l goal y n (av r y) (jl r j y)).2.1<=j; lia,by show (fy l goal y n (av r y) (jl r j y)).2.2+1+(fy l goal y n (av r y) (jl r j y)).1.length<=r.length; lia⟩
  ·have ew:fy l goal y (n+1) r j=(r,j,0):=if_neg hc
   rw [ew]
   exact ⟨List.Sublist.refl _,h0,Int.le_refl _,by show 0+r.length<=r.length; lia⟩
noncomputable def Jf (P:Program) (w:World) (CT:Addr) (ml:List DV->M DV):DS->M Out:=(bE (aW 10 (kZ (aL (ax 3 (bx)) (aa (af 6) (aa (af 7) (aa (af 9) aj)))))) (zE (F5 P w CT ml) G2 100))
theorem yk {ps:List D} {h:List Tl} {j0 goal:Int} (hm:∀h' j',Cnd l f U h' j'->h'.length<=12->ml [.fz (.tb P w CT l f U),.d (.list (h'.map pr)),.d (.int j')]=rt (.d (.int (ck l h' j')))) :
  ∀(ys:List Ml) (r:List Tl) (j:Int) (acc:List D) (x8 x9 x10:Option DV),(∀y∈ys,3<=(tl y).length/\(tl y).length<=1000)->r.length<=12->j<=2->Cnd l f U r j->acc.length+r.length<=1000 ->
   ∃r' j' q8 q9 q10,du (kn 2 (cm (ar 8) (cm (ar 9) kM))) (Jf P w CT ml) (ys.map kh) (fδ P w CT l f U ps h j0 goal acc r j x8 x9 x10)=rt (.nx (fδ P w CT l f U ps h j0 goal (acc++(uf l goal ys r j).map md) r' j' q8 q9 q10))
 |[],r,j,acc,x8,x9,x10,_,_,_,_,_=>⟨r,j,x8,x9,x10,by rw [List.map_nil,uf,List.map_nil,List.append_nil]; rfl⟩
 |y::ys,r,j,acc,x8,x9,x10,hy,hr,hj,c,ha=>by
  obtain ⟨h3,h1⟩:=hy y JZ
  obtain ⟨q,ew⟩:=E6 (P:=P) (w:=w) (CT:=CT) (ml:=ml) (ps:=ps) (h:=h) (j0:=j0) (goal:=goal) (d:=md y) h1 h3 hm 100 r j acc 0x1 hr hj c ha
  obtain ⟨f1,f2,f3,f4⟩:=oG (l:=l) (goal:=goal) h3 100 r j c.j0 hj
  have hlen:=f1.length_le
  obtain ⟨r',j',q8,q9,q10,ih⟩:=yk (ps:=ps) (h:=h) (j0:=j0) (goal:=goal) hm ys (fy l goal (tl y) 100 r j).1 (fy l goal (tl y) 100 r j).2.1 (acc++List.replicate (fy l goal (tl y) 100 r j).2.2 (md y)) (some (.d (md y))) (some (.d (.list ((tl y).map pr)))) q (fun z hz=>hy z (JY _ hz)) 0x1 0x1 (c.sub f1 f2 f3) (by rw [List.length_append,List.length_replicate]; lia)
  refine ⟨r',j',q8,q9,q10,?_⟩
  rw [List.map_cons,du]
  have e0:kn 2 (cm (ar 8) (cm (ar 9) kM)) (kh y) (fδ P w CT l f U ps h j0 goal acc r j x8 x9 x10)=some (fδ P w CT l f U ps h j0 goal acc r j (some (.d (md y))) (some (.d (.list ((tl y).map pr)))) x10):=rfl
  rw [e0,aR,aE]
  have e1:Jf P w CT ml (fδ P w CT l f U ps h j0 goal acc r j (some (.d (md y))) (some (.d (.list ((tl y).map pr)))) x10)=rt (.nx (fδ P w CT l f U ps h j0 goal (acc++List.replicate (fy l goal (tl y) 100 r j).2.2 (md y)) (fy l goal (tl y) 100 r j).1 (fy l goal (tl y) 100 r j).2.1 (some (.d (md y))) (some (.d (.list ((tl y).map pr)))) q)):=by
   unfold Jf
   exact gf (δ':=fδ P w CT l f U ps h j0 goal acc r j (some (.d (md y))) (some (.d (.list ((tl y).map pr)))) (some (.d (cZ (av r (tl y),jl r j (tl y)))))) (fC (x:=.d (cZ (av r (tl y),jl r j (tl y)))) (yg h1) rfl rfl) ew
  rw [e1,aE,lq,ih,uf,List.map_append,List.map_replicate,List.append_assoc]
theorem CF {ys:List Ml} {h:List Tl} {j:Int} (hm:∀h' j',Cnd l f U h' j'->h'.length<=12->ml [.fz (.tb P w CT l f U),.d (.list (h'.map pr)),.d (.int j')]=rt (.d (.int (ck l h' j')))) (hy:∀y∈ys,3<=(tl y).length/\(tl y).length<=1000) (hr:h.length<=12) (hj:j<=2) (c:Cnd l f U h j) :
  dB P w CT ml [.fz (.tb P w CT l f U),.d (.list (ys.map kh)),.d (.list (h.map pr)),.d (.int j)]=rt (.new ((uf l (ck l h j) ys h j).map md)):=by
 obtain ⟨r',j',q8,q9,q10,e⟩:=yk (P:=P) (w:=w) (CT:=CT) (ml:=ml) (ps:=ys.map kh) (h:=h) (j0:=j) (goal:=ck l h j) hm ys h j [] none none none hy hr hj c (by simp; lia)
 unfold dB
 refine dH (x:=.own ((uf l (ck l h j) ys h j).map md)) ?_
 unfold jB
 refine gf (δ':=[some (.fz (.tb P w CT l f U)),some (.d (.list (ys.map kh))),some (.d (.list (h.map pr))),some (.d (.int j)),some (.d (.int (ck l h j))),none,none,none,none,none,none]) (fC (x:=.d (.int (ck l h j))) (eP (l:=l) (f:=f) (U:=U) (ys:=[.d (.list (h.map pr)),.d (.int j)]) rfl (bH rfl rfl) rfl rfl (hm h j c hr)) rfl rfl) ?_
 refine gf (δ':=[some (.fz (.tb P w CT l f U)),some (.d (.list (ys.map kh))),some (.d (.list (h.map pr))),some (.d (.int j)),some (.d (.int (ck l h j))),some (.own []),none,none,none,none,none]) rfl ?_
 refine gf (δ':=[some (.fz (.tb P w CT l f U)),some (.d (.list (ys.map kh))),some (.d (.list (h.map pr))),some (.d (.int j)),some (.d (.int (ck l h j))),some (.own []),some (.d (.list (h.map pr))),none,none,none,none]) rfl ?_
 refine gf (δ':=fδ P w CT l f U (ys.map kh) h j (ck l h j) [] h j none none none) rfl ?_
 refine gf (δ':=fδ P w CT l f U (ys.map kh) h j (ck l h j) ([]++(uf l (ck l h j) ys h j).map md) r' j' q8 q9 q10) (jw (xs:=ys.map kh) (gd rfl) e) ?_
 exact bC rfl
end
theorem BM (p q:Tl):le p q=true↔vw p q:=by
 obtain ⟨a,b⟩:=p
 obtain ⟨c,d⟩:=q
 show (!(HT.lexLt [c,d] [a,b]))=true↔vw (a,b) (c,d)
 unfold vw
 simp only [HT.lexLt]
 by_cases h:c=a
 ·subst h
  by_cases h2:d=b
  ·subst h2; simp
  ·simp [h2]
 ·simp [h]; lia
theorem wC:∀{ps:List Tl},ia ps=true->ps.Pairwise vw
 |[],_=>List.Pairwise.nil
 |[a],_=>List.pairwise_singleton _ _
 |a::b::r,h=>by
  unfold ia at h
  rw [show (a::b::r).length-1=(b::r).length from rfl,List.length_cons,List.range_succ_eq_map,List.all_cons,Bool.and_eq_true,List.all_map] at h
  have h2:ia (b::r)=true:=h.2
  have ih:=wC h2
  have hab:vw a b:=(BM a b).mp h.1
  refine List.pairwise_cons.mpr ⟨fun x hx=>?_,ih⟩
  rcases List.mem_cons.mp hx with e|hx
  ·rw [e]; exact hab
  ·have:=(List.pairwise_cons.mp ih).1 x hx
   unfold vw at *; lia
theorem AE:∀{ps:List Tl},ps.Pairwise vw->ia ps=true
 |[],_=>rfl
 |[a],_=>rfl
 |a::b::r,h=>by
  rw [List.pairwise_cons] at h
  unfold ia
  rw [show (a::b::r).length-1=(b::r).length from rfl,List.length_cons,List.range_succ_eq_map,List.all_cons,Bool.and_eq_true,List.all_map]
  exact ⟨(BM a b).mpr (h.1 b JZ),AE h.2⟩
structure Hand (m c:Nat) (h:List Tl) (j:Int):Prop where
 len:h.length<=12
 j0:0<=j
 j2:j<=2
 tile:∀p∈h,aX m c p=true
 two:∀p,iK h p<=2
 ord:h.Pairwise vw
theorem BE {m c:Nat} {h:List Tl} {j:Int}:my m c h j=true↔(h.length<=12/\0<=j/\j<=2/\(∀p∈h,aX m c p=true/\iK h p<=2)/\ia h=true):=by
 unfold my jok tok
 simp only [Bool.and_eq_true,decide_eq_true_eq,List.all_map,List.all_eq_true,Function.comp,id]
 constructor
 ·rintro ⟨⟨⟨h1,h2,h3⟩,h4⟩,h5⟩; exact ⟨h1,h2,h3,h4,h5⟩
 ·rintro ⟨h1,h2,h3,h4,h5⟩; exact ⟨⟨⟨h1,h2,h3⟩,h4⟩,h5⟩
theorem Hand.ok {m c:Nat} {h:List Tl} {j:Int} (H:Hand m c h j):my m c h j=true:=BE.mpr ⟨H.len,H.j0,H.j2,fun p hp=>⟨H.tile p hp,H.two p⟩,AE H.ord⟩
theorem Hand.pos {m c:Nat} {h:List Tl} {j:Int} (H:Hand m c h j):∀p∈h,0<=p.1:=fun p hp=>by
 have:=H.tile p hp
 unfold aX at this
 simp at this
 lia
noncomputable def tP:List Tl->List (List Tl)
 |[]=>[[]]
 |x::r=>tP r++(tP r).map (x::·)
theorem pS:∀{h a:List Tl},a.Sublist h->a∈tP h
 |[],a,s=>by cases s; exact JZ
 |x::r,a,s=>by
  unfold tP
  cases s with
  |cons _ s=>exact J3 _ (pS s)
  |cons_cons _ s=>exact J2 _ (List.mem_map.mpr ⟨_,pS s,rfl⟩)
theorem ui:∀h:List Tl,(tP h).length=2 ^ h.length
 |[]=>rfl
 |x::r=>by unfold tP; rw [List.length_append,List.length_map,ui r,List.length_cons,Nat.pow_succ]; lia
noncomputable def UK (h:List Tl):List D:=(tP h).map (fun a=>kD a 0)++((tP h).map (fun a=>kD a 1)++(tP h).map fun a=>kD a 2)
theorem Gs {h a:List Tl} {j:Int} (s:a.Sublist h) (h0:0<=j) (h2:j<=2):kD a j∈UK h:=by
 have hm:=pS s
 unfold UK
 have:j=0\/j=1\/j=2:=by lia
 rcases this with e|e|e
 ·subst e; exact J3 _ (List.mem_map.mpr ⟨a,hm,rfl⟩)
 ·subst e; exact J2 _ (J3 _ (List.mem_map.mpr ⟨a,hm,rfl⟩))
 ·subst e; exact J2 _ (J2 _ (List.mem_map.mpr ⟨a,hm,rfl⟩))
theorem Fv {h:List Tl} (hl:h.length<=12):(UK h).length<=1000000:=by
 have:2 ^ h.length<=2 ^ 12:=Nat.pow_le_pow_right 0x3 hl
 unfold UK
 rw [List.length_append,List.length_append,List.length_map,List.length_map,List.length_map,ui]
 lia
theorem xQ {w:List Tl}:∀(ts:List Tl) (l:By) (n:Nat),ud l n->ud (ts.foldl (fun l t=>fA l t w) l) (n+ts.length)
 |[],l,n,h=>h
 |t::ts,l,n,h=>by
  have:=xQ (w:=w) ts (fA l t w) (n+1) (h.add t w)
  rw [List.foldl_cons,List.length_cons,show n+(ts.length+1)=n+1+ts.length by lia]
  exact this
theorem ud.mono {l:By} {n k:Nat} (h:ud l n) (hk:n<=k):ud l k:=⟨Nat.le_trans h.1 hk,fun p hp=>Nat.le_trans (h.2 p hp) hk⟩
theorem BN:∀(wss:List (List Tl)) (l:By) (n:Nat),ud l n->ud (wss.foldl iC l) (n+3*wss.length)
 |[],l,n,h=>h
 |w::wss,l,n,h=>by
  have h1:ud (iC l w) (n+3):=ud.mono (xQ (w.take 3) l n h) (by rw [List.length_take]; lia)
  have:=BN wss (iC l w) (n+3) h1
  rw [List.foldl_cons,List.length_cons,show n+3*(wss.length+1)=n+3+3*wss.length by lia]
  exact this
theorem CJ {wss:List (List Tl)} (hl:wss.length<=1000) (hw:∀w∈wss,w.length<=1000):Good (kW wss):=by
 refine ⟨fun t w h=>?_,fun t w h=>hw w ((jQ w t wss).mp h).1,fun t=>?_⟩
 ·exact (List.take_sublist 3 w).subset ((jQ w t wss).mp h).2
 ·have:=BN wss [] 0 ⟨J5 _,fun _ h=>(nomatch h)⟩
  unfold cU
  cases e:(kW wss).find? fun x=>decide (x.1=t) with
  |none=>exact Nat.zero_le _
  |some p=>
   have h2:=this.2 p (List.mem_of_find?_eq_some e)
   show p.2.length<=800000
   lia
noncomputable def g5 (m c:Nat) (h:List Tl) (j:Int):By:=kW ((ny m c h j).map tl)
theorem wZ {m c:Nat} (hm:m<=13) (h4:c<=4) (h:List Tl) (j:Int):(ny m c h j).length<=1000:=Nat.le_trans (List.length_filter_le _ _) (yv hm h4)
theorem jJ {m c:Nat} {h:List Tl} {j:Int} {y:Ml} (hy:y∈ny m c h j):y∈vt m c/\0<=jl h j (tl y):=by
 obtain ⟨h1,h2⟩:=List.mem_filter.mp hy
 exact ⟨h1,by simpa using h2⟩
theorem sV {m c:Nat} (hm:m<=13) (h1:1<=c) (h4:c<=4) (h:List Tl) (j:Int):Good (g5 m c h j):=
 CJ (by rw [List.length_map]; exact wZ hm h4 h j) fun w hw=>by
  obtain ⟨y,hy,rfl⟩:=List.mem_map.mp hw
  have:=(pq hm h1 h4 (w:=tl y) (List.mem_map.mpr ⟨y,(jJ hy).1,rfl⟩)).2
  lia
theorem Ff {m c:Nat} (hm:m<=13) (h1:1<=c) (h4:c<=4) {h:List Tl} {j:Int} (hl:h.length<=12) (h0:0<=j) (h2:j<=2) (j':Int):Cnd (g5 m c h j') (fK (g5 m c h j')) (UK h) h j:=
 ⟨sV hm h1 h4 h j',rfl,Fv hl,fun a ha b b0 hb=>Gs ha b0 (Int.le_trans hb h2),h0⟩
theorem mR:∀ys:List Ml,fY (ys.map kh)=some (ys.map tl)
 |[]=>rfl
 |y::ys=>by
  rw [List.map_cons,fY,mR ys]
  have:Bi (kh y)=some (tl y):=eE (tl y)
  rw [this]; rfl
noncomputable def GW (m c:Nat) (h:List Tl) (j:Int):Int:=g6 h-ck (g5 m c h j) h j
noncomputable def BL (m c:Nat) (h:List Tl) (j:Int):List Ml:=uf (g5 m c h j) (ck (g5 m c h j) h j) (ny m c h j) h j
section
variable {P:Program} {w:World} {C CT Eh El:Addr}
theorem FG {m c:Nat} (hm:m<=13) (h1:1<=c) (h4:c<=4) {h:List Tl} {j:Int} (H:Hand m c h j):sq P w C CT Eh El (fK (g5 m c h j)) (UK h) (kq P w CT 12) [hs C m c,.d (.list (h.map pr)),.d (.int j)]=rt (.nwt [.int (GW m c h j)] ((BL m c h j).map md) []):=by
 have cn:=Ff hm h1 h4 H.len H.j0 H.j2 j
 have hl:h.length<=1000:=by have:=H.len; lia
 have ml:∀h' j',Cnd (g5 m c h j) (fK (g5 m c h j)) (UK h) h' j'->h'.length<=12->kq P w CT 12 [.fz (.tb P w CT (g5 m c h j) (fK (g5 m c h j)) (UK h)),.d (.list (h'.map pr)),.d (.int j')]=rt (.d (.int (ck (g5 m c h j) h' j'))):=fun h' j' c' hl'=>As c' hl'
 unfold sq
 refine dH (x:=.nwt [.int (GW m c h j)] ((BL m c h j).map md) []) ?_
 unfold tF
 refine gf (δ':=[some (hs C m c),some (.d (.list (h.map pr))),some (.d (.int j)),none,none,none]) (oq (x:=.d .none) (bT (n:=3) (dG (x:=hs C m c) (y:=.d (.list (h.map pr))) (z:=.d (.int j)) rfl rfl rfl) rfl rfl (lN C Eh hl H.ok))) ?_
 refine gf (δ':=[some (hs C m c),some (.d (.list (h.map pr))),some (.d (.int j)),some (.own ((ny m c h j).map kh)),none,none]) (fC (x:=.new ((ny m c h j).map kh)) (bT (n:=3) (dG (x:=hs C m c) (y:=.d (.list (h.map pr))) (z:=.d (.int j)) rfl rfl rfl) rfl rfl (lp C El hm h1 h4 h j)) rfl rfl) ?_
 show bE _ _ [some (hs C m c),some (.d (.list (h.map pr))),some (.d (.int j)),some (.d (.list ((ny m c h j).map kh))),none,none]=_
 refine gf (δ':=[some (hs C m c),some (.d (.list (h.map pr))),some (.d (.int j)),some (.d (.list ((ny m c h j).map kh))),some (.fz (.tb P w CT (g5 m c h j) (fK (g5 m c h j)) (UK h))),none]) (fC (x:=.fz (.tb P w CT (g5 m c h j) (fK (g5 m c h j)) (UK h))) ((cj (bh (x:=.d (.list ((ny m c h j).map kh))) rfl)).trans ?_) rfl rfl) ?_
 ·show bd (op (fY ((ny m c h j).map kh))) _=_
  rw [mR,aR,aE,if_pos (by rw [List.length_map]; exact wZ hm h4 h j)]
  rfl
 refine gf (δ':=[some (hs C m c),some (.d (.list (h.map pr))),some (.d (.int j)),some (.d (.list ((ny m c h j).map kh))),some (.fz (.tb P w CT (g5 m c h j) (fK (g5 m c h j)) (UK h))),some (.d (.int (GW m c h j)))]) (fC (x:=.d (.int (GW m c h j))) ?_ rfl rfl) ?_
 ·refine (au (x:=.d (.int (g6 h))) (y:=.d (.int (ck (g5 m c h j) h j))) (bB (n:=1) (bh (x:=.d (.list (h.map pr))) rfl) rfl rfl (CC h hl)) ?_).trans (dE _ _)
  exact eP (l:=g5 m c h j) (f:=fK (g5 m c h j)) (U:=UK h) (ys:=[.d (.list (h.map pr)),.d (.int j)]) rfl (bH rfl rfl) rfl rfl (ml h j cn H.len)
 ·show aZ _ [some (hs C m c),some (.d (.list (h.map pr))),some (.d (.int j)),some (.d (.list ((ny m c h j).map kh))),some (.fz (.tb P w CT (g5 m c h j) (fK (g5 m c h j)) (UK h))),some (.d (.int (GW m c h j)))]=_
  refine bC ?_
  unfold z5
  rw [bH (x:=.d (.int (GW m c h j))) (y:=.new ((BL m c h j).map md)) rfl (bB (n:=4) (xy (x:=.fz (.tb P w CT (g5 m c h j) (fK (g5 m c h j)) (UK h))) (y:=.d (.list ((ny m c h j).map kh))) (z:=.d (.list (h.map pr))) (u:=.d (.int j)) rfl rfl rfl rfl) rfl rfl (CF ml (fun y hy=>?_) H.len H.j2 cn))]
  ·rfl
  ·have:=pq hm h1 h4 (w:=tl y) (List.mem_map.mpr ⟨y,(jJ hy).1,rfl⟩)
   lia
end
theorem Ee {m c:Nat} {h:List Tl} {j:Int} {Ws:List (List Tl)} (p:Play (GZ m c) h j Ws):Play ((ny m c h j).map tl) h j Ws:=by
 refine ⟨fun w hw=>?_,p.jok⟩
 obtain ⟨y,hy,rfl⟩:=List.mem_map.mp (p.mem w hw)
 refine List.mem_map.mpr ⟨y,List.mem_filter.mpr ⟨hy,?_⟩,rfl⟩
 obtain ⟨A,B,rfl⟩:=List.append_of_mem hw
 have pw:(A++tl y::B).flatten.Perm (tl y++(A++B).flatten):=by
  rw [List.flatten_append,List.flatten_cons,List.flatten_append,<-List.append_assoc,<-List.append_assoc]
  exact (List.perm_append_comm).append_right _
 have:=p.jok
 rw [tW pw] at this
 have:=Int.le_trans this (tK _ _ _ _)
 simpa using this
noncomputable def gF (xs:List DV):PyData->Option Int:=match xs with
 |[.ob _ [(_,.int m),(_,.int c)],.d (.list ts),.d (.int j)]=>match bW ts with
  |some h=>fK (g5 m.toNat c.toNat h j)
  |none=>fun _=>none
 |_=>fun _=>none
noncomputable def gU (xs:List DV):List PyData:=match xs with
 |[_,.d (.list ts),_]=>match bW ts with
  |some h=>UK h
  |none=>[]
 |_=>[]
noncomputable def rg (xs:List DV):(PyData->Option Int)×List PyData:=(gF xs,gU xs)
theorem Hr (C:Addr) (m c:Nat) (h:List Tl) (j:Int):gF [hs C m c,.d (.list (h.map pr)),.d (.int j)]=fK (g5 m c h j):=by
 show (match bW (h.map pr) with|some h=>fK (g5 (m:Int).toNat (c:Int).toNat h j)|none=>fun _=>none)=_
 rw [show bW (h.map pr)=some h from eE h,Int.toNat_natCast,Int.toNat_natCast]
theorem HG (x y:DV) (h:List Tl):gU [x,.d (.list (h.map pr)),y]=UK h:=by
 show (match bW (h.map pr) with|some h=>UK h|none=>[])=_
 rw [show bW (h.map pr)=some h from eE h]
noncomputable def gm (P:Program) (w:World) (C CT Eh El:Addr) (ml:List DV->M DV) (xs:List DV):M DV:=sq P w C CT Eh El (rg xs).1 (rg xs).2 ml xs
noncomputable def bz (P:Program) (w:World) (C CT Eh El:Addr) (mc:List DV->M DV) (xs:List DV):M DV:=kU P w C CT Eh El (rg xs).1 (rg xs).2 mc xs
noncomputable def cB (P:Program) (w:World) (C CT Eh El:Addr) (mc:List DV->M DV) (xs:List DV):M DV:=mM P w C CT Eh El (rg xs).1 (rg xs).2 mc xs
theorem vR (P:Program) (w:World) (C CT Eh El:Addr) (ml:List DV->M DV):gm P w C CT Eh El ml=fun xs=>eG ["house", "hand", "jokers", "playable", "table", "greatest"] (tF P w C CT Eh El (rg xs).1 (rg xs).2 ml) xs:=by
 funext xs
 unfold gm sq
 rfl
theorem qw (P:Program) (w:World) (C CT Eh El:Addr) (ml:List DV->M DV):bz P w C CT Eh El ml=fun xs=>eG ["house", "hand", "jokers"] (iM P w C CT Eh El (rg xs).1 (rg xs).2 ml) xs:=by
 funext xs
 unfold bz kU
 rfl
theorem qM (P:Program) (w:World) (C CT Eh El:Addr) (ml:List DV->M DV):cB P w C CT Eh El ml=fun xs=>eG ["house", "hand", "jokers", "table", "room"] (j1 P w C CT Eh El (rg xs).1 (rg xs).2 ml) xs:=by
 funext xs
 unfold cB mM
 rfl
theorem CK {P:Program} {w:World} {C CT Eh El:Addr} {m c:Nat} (hm:m<=13) (h1:1<=c) (h4:c<=4) {h:List Tl} {j:Int} (H:Hand m c h j):gm P w C CT Eh El (kq P w CT 12) [hs C m c,.d (.list (h.map pr)),.d (.int j)]=rt (.nwt [.int (GW m c h j)] ((BL m c h j).map md) []):=by
 unfold gm rg
 rw [Hr,HG]
 exact FG hm h1 h4 H
end LW
namespace L3
open PySem PySem.Spec L2
theorem IS {P:Program} {w:World} {K:Kd} {mg:Str->Option Value} {base:Heap} {CX:wJ} {k n:Nat} {f:Addr} {fd:FuncData} {ps:List Str} {G:Type} {fm:G->List DV->M DV} (ch:List DV->G) (h:∀g,FnOk P w K mg base CX k f fd ps (Ij n (fm g))):FnOk P w K mg base CX k f fd ps (Ij n fun xs=>fm (ch xs) xs):=
 ⟨fun vs H Q E ⟨h1,O,xs,r,h2,h3,h4,h5⟩=>(h (ch xs)).len vs H Q E ⟨h1,O,xs,r,h2,h3,h4,h5⟩,fun A outer s H args us vs Q E hr he hb hv ⟨h1,O,xs,r,h2,h3,h4,h5⟩=>(h (ch xs)).run A outer s H args us vs Q E hr he hb hv ⟨h1,O,xs,r,h2,h3,h4,h5⟩⟩
theorem HasM.imp {P:Program} {w:World} {K:Kd} {mg:Str->Option Value} {base:Heap} {j k:Nat} {C:Addr} {m:Str} {n:Nat} {fm fm':List DV->M DV} (F:HasM P w K mg base j C m n fm) (hj:j<=k) (h:∀xs x,fm' xs=some (.ok x)->fm xs=some (.ok x)):HasM P w K mg base k C m n fm':=by
 obtain ⟨⟨fn,fd,ps,h1,h2,h3⟩,no⟩:=F
 exact ⟨⟨fn,fd,ps,(h1.imp fun vs H Q E ⟨a,O,xs,x,b,c,d,e⟩=>⟨a,O,xs,x,b,c,h xs x d,e⟩).mono hj,h2,h3⟩,no⟩
end L3
namespace K8
open PySem PySem.Spec L2 L3 LW
open PyProof.Rows hiding St
noncomputable def jO (i:Nat):Stmt:=PySem.Challenge.pw_meldhouse_k08_whole_out_and_helpers.main.body.getD i (.Pass ⟨0,0,0,0⟩)
structure Tx (K:Kd) (mg:Str->Option Value) (C:Addr):Prop where
 cl:Cls K C
 n_colours:dU K C "colours"
 n_most:dU K C "most"
 i_LEAST_NUMBERS:∃t,mg "LEAST_NUMBERS" = some (.int 3 t)
 i_MOST_NUMBERS:∃t,mg "MOST_NUMBERS" = some (.int 13 t)
 i_LEAST_COLOURS:∃t,mg "LEAST_COLOURS" = some (.int 1 t)
 i_MOST_COLOURS:∃t,mg "MOST_COLOURS" = some (.int 4 t)
 i_MOST_TILES:∃t,mg "MOST_TILES" = some (.int 12 t)
 i_MOST_ALIKE:∃t,mg "MOST_ALIKE" = some (.int 2 t)
 i_MOST_JOKERS:∃t,mg "MOST_JOKERS" = some (.int 2 t)
 i_LEAST_SIZE:∃t,mg "LEAST_SIZE" = some (.int 3 t)
 b_all:mg "all" = none
 b_int:mg "int" = none
 b_len:mg "len" = none
 b_list:mg "list" = none
 b_min:mg "min" = none
 b_range:mg "range" = none
 b_sorted:mg "sorted" = none
 b_sum:mg "sum" = none
 b_tuple:mg "tuple" = none
structure Rx (K:Kd) (mg:Str->Option Value) (J9 Ka Kb Kc:Addr):Prop where
 x_BadHand:Xc K mg "BadHand" J9
 x_BadLaying:Xc K mg "BadLaying" Kb
structure Tt (K:Kd) (CT:Addr):Prop where
 cl:Cls K CT
 n_by_least:dU K CT "by_least"
 n_known:dU K CT "known"
noncomputable def uU (K:Kd) (C:Addr) (m ql:Str) (st:Stmt) (ps:List Str):Prop:=∃f fd,Fun K m ql st f fd/\Meth K C m f/\gh K fd ps []
theorem uU.has {P:Program} {w:World} {K:Kd} {mg:Str->Option Value} {base:Heap} {C:Addr} {m ql:Str} {st:Stmt} {ps:List Str} {k n:Nat} {fm:List DV->M DV} (D:uU K C m ql st ps) (no:∀v u:V,([("by_least",v),("known",u)]:List (Str×V)).lookup m=none) (h:∀f fd,Fun K m ql st f fd->FnOk P w K mg base so k f fd ps (Eb n fm)):HasM P w K mg base k C m n fm:=by
 obtain ⟨f,fd,Fu,hm,hb⟩:=D
 exact ⟨⟨f,fd,ps,h f fd Fu,hm,hb⟩,no⟩
noncomputable abbrev Jr (P:Program) (w:World) (K:Kd) (mg:Str->Option Value) (base:Heap) (C Ka:Addr):Prop:=Hs P w K mg base "House" C Ka good "most" "colours"
section
variable {P:Program} {w:World} {K:Kd} {mg:Str->Option Value} {base:Heap}
noncomputable abbrev iE:Stmt:=jO 14
theorem qm:FnScope ["house", "tile"] ["house", "tile"] (ao iE):=⟨rfl,rfl,rfl,0x2,rfl,0x2,0x2⟩
theorem eF {C J9 Ka Kb Kc:Addr}  (T:Tx K mg C) (R:Rx K mg J9 Ka Kb Kc) (D:Df K mg "is_tile" iE ["house", "tile"])   : Has P w K mg base 1 "is_tile" 2 (bR C):=D.has fun f fd Fu=>nY (k:=0) Fu qm rfl fun cdv A outer s H E hr=>by
 have hu:=dR hr
 have nd:=qm.nd
 refine ay ?_
 exact aS (pZ (vj (gL hu) (gL hu) ak (bD (ah 1 (pv 1)) ak) (jb (ah 0 (pv 0)) T.cl T.n_most)) (oW (vj (gL hu) (ie hu) ak (bD (ah 1 (pv 1)) ak) (jb (ah 0 (pv 0)) T.cl T.n_colours))))
noncomputable abbrev eJ:Stmt:=jO 15
theorem mi:FnScope ["house", "found", "number"] ["house"] (ao eJ):=⟨rfl,rfl,rfl,0x2,rfl,0x2,0x2⟩
theorem jM {C J9 Ka Kb Kc:Addr}  (T:Tx K mg C) (R:Rx K mg J9 Ka Kb Kc) (D:Df K mg "all_tiles" eJ ["house"])   : Has P w K mg base 1 "all_tiles" 1 (fV C):=D.has fun f fd Fu=>nY (k:=0) Fu mi rfl fun cdv A outer s H E hr=>by
 have hu:=dR hr
 have nd:=mi.nd
 refine aq ?_ ?_
 ·refine aP (i:=1) ?_ ?_
  ·exact nd
  ·exact (cG ai)
 ·refine aq ?_ ?_
  ·refine eV PassesOwn.never rfl ?_ (aG (i:=2) (by exact nd) rfl (by first|exact Or.inl rfl|exact Or.inr rfl)) (aJ 2) ?_
   ·exact (pV T.b_range (ae ak (ae (aM bA (jb (ah 0 (pv 0)) T.cl T.n_most) ak) ai)))
   ·refine ay ?_
    refine tN (pv 1) ?_
    exact (cA (N':=["colour", "number"]) (CompSc.fit (sc:=ao eJ) (N:=["house", "found", "number"]) ⟨rfl,0x2,0x2,0x2,rfl,0x2⟩) 0x3 rfl (qj T.b_range (ae (jb (ah 0 (pv 0)) T.cl T.n_colours) ai)) (aJ 0) (bw 0x3) (fun _ _ _ _=>(aG (i:=0) (show List.Nodup (["colour", "number"]:List Str) by decide +kernel) rfl (by first|exact Or.inl rfl|exact Or.inr rfl))) (fun _ _ _ _=>eX) (fun _ _ _ _=>(cX (ae (ah 1 (pv 1)) (ae (ah 0 (pv 0)) ai)))))
  ·refine ay ?_
   exact aS (ah 1 (pv 1))
noncomputable abbrev dm:Stmt:=jO 16
theorem jL:FnScope ["row"] ["row"] (ao dm):=⟨rfl,rfl,rfl,0x2,rfl,0x2,0x2⟩
theorem dY {C J9 Ka Kb Kc:Addr}  (T:Tx K mg C) (R:Rx K mg J9 Ka Kb Kc) (D:Df K mg "is_in_order" dm ["row"])   : Has P w K mg base 1 "is_in_order" 1 (bj):=D.has fun f fd Fu=>nY (k:=0) Fu jL rfl fun cdv A outer s H E hr=>by
 have hu:=dR hr
 have nd:=jL.nd
 refine ay ?_
 exact aS (aV (kN rfl) rfl T.b_all tw (ae (cA (N':=["k", "row"]) (CompSc.fit (sc:=ao dm) (N:=["row"]) ⟨rfl,0x2,0x2,0x2,rfl,0x2⟩) 0x3 rfl (pV T.b_range (ae ak (ae (aV eQ rfl T.b_len eA (ae (ah 0 (pv 0)) ai)) ai))) (aJ 0) (bw 0x3) (fun _ _ _ _=>(aG (i:=0) (show List.Nodup (["k", "row"]:List Str) by decide +kernel) rfl (by first|exact Or.inl rfl|exact Or.inr rfl))) (fun _ _ _ _=>eX) (fun _ _ _ _=>(iN (gL hu) (bD (ah 1 (pv 1)) (aM iX (ah 0 (pv 0)) ak)) (bD (ah 1 (pv 1)) (ah 0 (pv 0)))))) ai))
noncomputable abbrev gv:Stmt:=jO 17
theorem qo:FnScope ["house", "hand", "jokers"] ["house", "hand", "jokers"] (ao gv):=⟨rfl,rfl,rfl,0x2,rfl,0x2,0x2⟩
theorem mP {C J9 Ka Kb Kc:Addr}  (T:Tx K mg C) (R:Rx K mg J9 Ka Kb Kc) (D:Df K mg "is_hand" gv ["house", "hand", "jokers"])  (eF:Has P w K mg base 1 "is_tile" 2 (bR C)) (dY:Has P w K mg base 1 "is_in_order" 1 (bj)):Has P w K mg base 2 "is_hand" 3 (ik C):=D.has fun f fd Fu=>nY (k:=1) Fu qo rfl fun cdv A outer s H E hr=>by
 have hu:=dR hr
 have nd:=qo.nd
 refine aq ?_ ?_
 ·refine de ?_ ?_ ?_
  ·exact (zh.pb (EY (bK Am (aV eQ rfl T.b_len eA (ae (ah 1 (pv 1)) ai)) (hV T.i_MOST_TILES)) (AL (ic (oR (gL hu) (gL hu) ak (ah 2 (pv 2)) (hV T.i_MOST_JOKERS))))))
  ·refine ay ?_
   exact aS jY
  ·exact bV
 ·refine aq ?_ ?_
  ·refine de ?_ ?_ ?_
   ·exact (ic (kQ (aV (kN rfl) rfl T.b_all tw (ae (cA (N':=["tile", "house", "hand"]) (CompSc.fit (sc:=ao gv) (N:=["house", "hand", "jokers"]) ⟨rfl,0x2,0x2,0x2,rfl,0x2⟩) 0x3 rfl (eK (ah 1 (pv 1))) (aJ 0) (bw 0x3) (fun _ _ _ _=>(aG (i:=0) (show List.Nodup (["tile", "house", "hand"]:List Str) by decide +kernel) rfl (by first|exact Or.inl rfl|exact Or.inr rfl))) (fun _ _ _ _=>eX) (fun _ _ _ _=>(pZ (aU (eF.mono 0x3) hr (ae (ah 1 (pv 1)) (ae (ah 0 (pv 0)) ai))) (oW (iN (gL hu) (jD hu (ah 2 (pv 2)) (ah 0 (pv 0))) (hV T.i_MOST_ALIKE)))))) ai))))
   ·refine ay ?_
    exact aS jY
   ·exact bV
  ·refine ay ?_
   exact aS (aU (dY.mono 0x3) hr (ae (ah 1 (pv 1)) ai))
noncomputable abbrev eU:Stmt:=jO 18
theorem kF:FnScope ["house", "hand", "jokers"] ["house", "hand", "jokers"] (ao eU):=⟨rfl,rfl,rfl,0x2,rfl,0x2,0x2⟩
theorem bU {C J9 Ka Kb Kc:Addr}  (T:Tx K mg C) (R:Rx K mg J9 Ka Kb Kc) (D:Df K mg "check_hand" eU ["house", "hand", "jokers"])  (mP:Has P w K mg base 2 "is_hand" 3 (ik C)):HasX P w K mg base 3 "check_hand" 3 (bG C J9):=D.hasX fun f fd Fu=>EJ (k:=2) Fu kF rfl fun cdv A outer s H E hr=>by
 have hu:=dR hr
 have nd:=kF.nd
 refine ay ?_
 refine de ?_ ?_ ?_
 ·exact (ic (kQ (aU (mP.mono 0x3) hr (by refine ae ?_ ?_; (exact (ah 0 (pv 0))); (exact (ae (ah 1 (pv 1)) (ae (ah 2 (pv 2)) ai)))))))
 ·refine ay ?_
  exact lS (ma hr) R.x_BadHand
 ·exact bV
noncomputable abbrev jF:Stmt:=jO 21
theorem rR:FnScope ["house", "colour", "first", "size", "last"] ["house", "colour", "first", "size"] (ao jF):=⟨rfl,rfl,rfl,0x2,rfl,0x2,0x2⟩
theorem pM {C J9 Ka Kb Kc:Addr}  (T:Tx K mg C) (R:Rx K mg J9 Ka Kb Kc) (D:Df K mg "is_run" jF ["house", "colour", "first", "size"])  (eF:Has P w K mg base 1 "is_tile" 2 (bR C)):Has P w K mg base 2 "is_run" 4 (jv C):=D.has fun f fd Fu=>nY (k:=1) Fu rR rfl fun cdv A outer s H E hr=>by
 have hu:=dR hr
 have nd:=rR.nd
 refine aq ?_ ?_
 ·refine aP (i:=4) ?_ ?_
  ·exact nd
  ·exact (aM iX (aM bA (ah 2 (pv 2)) (ah 3 (pv 3))) ak)
 ·refine ay ?_
  exact aS (pZ (iN uE (ah 3 (pv 3)) (hV T.i_LEAST_SIZE)) (pZ (aU (eF.mono 0x3) hr (ae (ah 0 (pv 0)) (ae (cX (ae (ah 2 (pv 2)) (ae (ah 1 (pv 1)) ai))) ai))) (oW (aU (eF.mono 0x3) hr (ae (ah 0 (pv 0)) (ae (cX (ae (ah 4 (pv 4)) (ae (ah 1 (pv 1)) ai))) ai))))))
noncomputable abbrev eg:Stmt:=jO 22
theorem ni:FnScope ["house", "number", "colours"] ["house", "number", "colours"] (ao eg):=⟨rfl,rfl,rfl,0x2,rfl,0x2,0x2⟩
theorem lj {C J9 Ka Kb Kc:Addr}  (T:Tx K mg C) (R:Rx K mg J9 Ka Kb Kc) (D:Df K mg "is_group" eg ["house", "number", "colours"])  (eF:Has P w K mg base 1 "is_tile" 2 (bR C)):Has P w K mg base 2 "is_group" 3 (gO C):=D.has fun f fd Fu=>nY (k:=1) Fu ni rfl fun cdv A outer s H E hr=>by
 have hu:=dR hr
 have nd:=ni.nd
 refine aq ?_ ?_
 ·refine de ?_ ?_ ?_
  ·exact (bK (ie hu) (aV eQ rfl T.b_len eA (ae (ah 2 (pv 2)) ai)) (hV T.i_LEAST_SIZE))
  ·refine ay ?_
   exact aS jY
  ·exact bV
 ·refine aq ?_ ?_
  ·refine de ?_ ?_ ?_
   ·exact (ic (kQ (aV (kN rfl) rfl T.b_all tw (ae (cA (N':=["colour", "house", "number"]) (CompSc.fit (sc:=ao eg) (N:=["house", "number", "colours"]) ⟨rfl,0x2,0x2,0x2,rfl,0x2⟩) 0x3 rfl (E1 (ah 2 (pv 2))) (aJ 0) (bw 0x3) (fun _ _ _ _=>(aG (i:=0) (show List.Nodup (["colour", "house", "number"]:List Str) by decide +kernel) rfl (by first|exact Or.inl rfl|exact Or.inr rfl))) (fun _ _ _ _=>eX) (fun _ _ _ _=>(aU (eF.mono 0x3) hr (ae (ah 1 (pv 1)) (ae (cX (ae (ah 2 (pv 2)) (ae (ah 0 (pv 0)) ai))) ai))))) ai))))
   ·refine ay ?_
    exact aS jY
   ·exact bV
  ·refine ay ?_
   exact aS (aV (kN rfl) rfl T.b_all tw (ae (cA (N':=["k", "colours"]) (CompSc.fit (sc:=ao eg) (N:=["house", "number", "colours"]) ⟨rfl,0x2,0x2,0x2,rfl,0x2⟩) 0x3 rfl (pV T.b_range (ae ak (ae (aV eQ rfl T.b_len eA (ae (ah 2 (pv 2)) ai)) ai))) (aJ 0) (bw 0x3) (fun _ _ _ _=>(aG (i:=0) (show List.Nodup (["k", "colours"]:List Str) by decide +kernel) rfl (by first|exact Or.inl rfl|exact Or.inr rfl))) (fun _ _ _ _=>eX) (fun _ _ _ _=>(iN (ie hu) (bD (ah 1 (pv 1)) (aM iX (ah 0 (pv 0)) ak)) (bD (ah 1 (pv 1)) (ah 0 (pv 0)))))) ai))
noncomputable abbrev iG:Stmt:=jO 23
theorem qx:FnScope ["house", "meld"] ["house", "meld"] (ao iG):=⟨rfl,rfl,rfl,0x2,rfl,0x2,0x2⟩
theorem mL {C J9 Ka Kb Kc:Addr}  (T:Tx K mg C) (R:Rx K mg J9 Ka Kb Kc) (D:Df K mg "is_meld" iG ["house", "meld"])  (pM:Has P w K mg base 2 "is_run" 4 (jv C)) (lj:Has P w K mg base 2 "is_group" 3 (gO C)):Has P w K mg base 3 "is_meld" 2 (cR C):=D.has fun f fd Fu=>nY (k:=2) Fu qx rfl fun cdv A outer s H E hr=>by
 have hu:=dR hr
 have nd:=qx.nd
 refine aq ?_ ?_
 ·refine de ?_ ?_ ?_
  ·exact (bK (jP hu) (bD (ah 1 (pv 1)) ak) (qe 0x2))
  ·refine ay ?_
   exact aS (aU (pM.mono 0x3) hr (by refine ae ?_ ?_; (exact (ah 0 (pv 0))); (exact (by refine ae ?_ ?_; (exact (bD (ah 1 (pv 1)) ak)); (exact (by refine ae ?_ ?_; (exact (bD (ah 1 (pv 1)) ak)); (exact (by refine ae ?_ ?_; (exact (bD (ah 1 (pv 1)) ak)); (exact ai)))))))))
  ·exact bV
 ·refine ay ?_
  exact aS (pZ (iN (jP hu) (bD (ah 1 (pv 1)) ak) (qe 0x2)) (oW (aU (lj.mono 0x3) hr (by refine ae ?_ ?_; (exact (ah 0 (pv 0))); (exact (ae (bD (ah 1 (pv 1)) ak) (ae (bD (ah 1 (pv 1)) ak) ai)))))))
noncomputable abbrev eB:Stmt:=jO 24
theorem nv:FnScope ["house", "meld"] ["house", "meld"] (ao eB):=⟨rfl,rfl,rfl,0x2,rfl,0x2,0x2⟩
theorem gJ {C J9 Ka Kb Kc:Addr}  (T:Tx K mg C) (R:Rx K mg J9 Ka Kb Kc) (D:Df K mg "tiles_of" eB ["house", "meld"])  (mL:Has P w K mg base 3 "is_meld" 2 (cR C)):HasX P w K mg base 4 "tiles_of" 2 (bu C Kb):=D.hasX fun f fd Fu=>EJ (k:=3) Fu nv rfl fun cdv A outer s H E hr=>by
 have hu:=dR hr
 have nd:=nv.nd
 refine aq ?_ ?_
 ·refine de ?_ ?_ ?_
  ·exact (ic (kQ (aU (mL.mono 0x3) hr (ae (ah 0 (pv 0)) (ae (ah 1 (pv 1)) ai)))))
  ·refine ay ?_
   exact lS (ma hr) R.x_BadLaying
  ·exact bV
 ·refine aq ?_ ?_
  ·refine de ?_ ?_ ?_
   ·exact (bK (jP hu) (bD (ah 1 (pv 1)) ak) (qe 0x2))
   ·refine ay ?_
    exact aS (cA (N':=["k", "meld"]) (CompSc.fit (sc:=ao eB) (N:=["house", "meld"]) ⟨rfl,0x2,0x2,0x2,rfl,0x2⟩) 0x3 rfl (qj T.b_range (ae (bD (ah 1 (pv 1)) ak) ai)) (aJ 0) (bw 0x3) (fun _ _ _ _=>(aG (i:=0) (show List.Nodup (["k", "meld"]:List Str) by decide +kernel) rfl (by first|exact Or.inl rfl|exact Or.inr rfl))) (fun _ _ _ _=>eX) (fun _ _ _ _=>(cX (ae (aM bA (bD (ah 1 (pv 1)) ak) (ah 0 (pv 0))) (ae (bD (ah 1 (pv 1)) ak) ai)))))
   ·exact bV
  ·refine ay ?_
   exact aS (cA (N':=["colour", "meld"]) (CompSc.fit (sc:=ao eB) (N:=["house", "meld"]) ⟨rfl,0x2,0x2,0x2,rfl,0x2⟩) 0x3 rfl (E1 (bD (ah 1 (pv 1)) ak)) (aJ 0) (bw 0x3) (fun _ _ _ _=>(aG (i:=0) (show List.Nodup (["colour", "meld"]:List Str) by decide +kernel) rfl (by first|exact Or.inl rfl|exact Or.inr rfl))) (fun _ _ _ _=>eX) (fun _ _ _ _=>(cX (ae (bD (ah 1 (pv 1)) ak) (ae (ah 0 (pv 0)) ai)))))
noncomputable abbrev bJ:Stmt:=jO 25
theorem hZ:FnScope ["house", "choices", "colour"] ["house"] (ao bJ):=⟨rfl,rfl,rfl,0x2,rfl,0x2,0x2⟩
theorem fE {C J9 Ka Kb Kc:Addr}  (T:Tx K mg C) (R:Rx K mg J9 Ka Kb Kc) (D:Df K mg "colour_choices" bJ ["house"])   : Has P w K mg base 1 "colour_choices" 1 (b8 C):=D.has fun f fd Fu=>nY (k:=0) Fu hZ rfl fun cdv A outer s H E hr=>by
 have hu:=dR hr
 have nd:=hZ.nd
 refine aq ?_ ?_
 ·refine aP (i:=1) ?_ ?_
  ·exact nd
  ·exact (cG (ae (cX ai) ai))
 ·refine aq ?_ ?_
  ·refine eV PassesOwn.never rfl ?_ (aG (i:=2) (by exact nd) rfl (by first|exact Or.inl rfl|exact Or.inr rfl)) (aJ 2) ?_
   ·exact (qj T.b_range (ae (jb (ah 0 (pv 0)) T.cl T.n_colours) ai))
   ·refine fP 1 ?_
    refine ay ?_
    refine aP (i:=1) ?_ ?_
    ·exact nd
    ·exact (aM bA (ah 1 (pv 1)) (cA (N':=["choice", "colour"]) (CompSc.fit (sc:=ao bJ) (N:=["house", "choices", "colour"]) ⟨rfl,0x2,0x2,0x2,rfl,0x2⟩) 0x3 rfl (eK (ah 1 (pv 1))) (aJ 0) (bw 0x3) (fun _ _ _ _=>(aG (i:=0) (show List.Nodup (["choice", "colour"]:List Str) by decide +kernel) rfl (by first|exact Or.inl rfl|exact Or.inr rfl))) (fun _ _ _ _=>eX) (fun _ _ _ _=>(aM bA (ah 0 (pv 0)) (cX (ae (ah 1 (pv 1)) ai))))))
  ·refine fP 1 ?_
   refine ay ?_
   exact aS (aV (iH hu) rfl T.b_sorted iy (ae (cA (N':=["choice"]) (CompSc.fit (sc:=ao bJ) (N:=["house", "choices", "colour"]) ⟨rfl,0x2,0x2,0x2,rfl,0x2⟩) 0x3 rfl (eK (ah 1 (pv 1))) (aJ 0) (bw 0x3) (fun _ _ _ _=>(aG (i:=0) (show List.Nodup (["choice"]:List Str) by decide +kernel) rfl (by first|exact Or.inl rfl|exact Or.inr rfl))) (fun _ _ _ _=>mB (bK uE (aV eQ rfl T.b_len eA (ae (ah 0 (pv 0)) ai)) (hV T.i_LEAST_SIZE))) (fun _ _ _ _=>(ah 0 (pv 0)))) ai))
noncomputable abbrev dN:Stmt:=jO 26
theorem kA:FnScope ["house", "choices", "found", "number"] ["house"] (ao dN):=⟨rfl,rfl,rfl,0x2,rfl,0x2,0x2⟩
theorem iP {C J9 Ka Kb Kc:Addr}  (T:Tx K mg C) (R:Rx K mg J9 Ka Kb Kc) (D:Df K mg "all_groups" dN ["house"])  (fE:Has P w K mg base 1 "colour_choices" 1 (b8 C)):Has P w K mg base 2 "all_groups" 1 (dQ C):=D.has fun f fd Fu=>nY (k:=1) Fu kA rfl fun cdv A outer s H E hr=>by
 have hu:=dR hr
 have nd:=kA.nd
 refine aq ?_ ?_
 ·refine aP (i:=1) ?_ ?_
  ·exact nd
  ·exact (aU (fE.mono 0x3) hr (ae (ah 0 (pv 0)) ai))
 ·refine aq ?_ ?_
  ·refine aP (i:=2) ?_ ?_
   ·exact nd
   ·exact (cG ai)
  ·refine aq ?_ ?_
   ·refine eV PassesOwn.never rfl ?_ (aG (i:=3) (by exact nd) rfl (by first|exact Or.inl rfl|exact Or.inr rfl)) (aJ 3) ?_
    ·exact (pV T.b_range (ae ak (ae (aM bA (jb (ah 0 (pv 0)) T.cl T.n_most) ak) ai)))
    ·refine fP 1 ?_
     refine ay ?_
     refine tN (pv 2) ?_
     exact (cA (N':=["choice", "number"]) (CompSc.fit (sc:=ao dN) (N:=["house", "choices", "found", "number"]) ⟨rfl,0x2,0x2,0x2,rfl,0x2⟩) 0x3 rfl (eK (ah 1 (pv 1))) (aJ 0) (bw 0x3) (fun _ _ _ _=>(aG (i:=0) (show List.Nodup (["choice", "number"]:List Str) by decide +kernel) rfl (by first|exact Or.inl rfl|exact Or.inr rfl))) (fun _ _ _ _=>eX) (fun _ _ _ _=>(by refine cX ?_; (exact (by refine ae ?_ ?_; (exact (qe 0x2)); (exact (ae (ah 1 (pv 1)) (ae (ah 0 (pv 0)) ai))))))))
   ·refine ay ?_
    exact aS (ah 2 (pv 2))
noncomputable abbrev fO:Stmt:=jO 27
theorem nr:FnScope ["house", "found", "colour", "first", "room"] ["house"] (ao fO):=⟨rfl,rfl,rfl,0x2,rfl,0x2,0x2⟩
theorem ly {C J9 Ka Kb Kc:Addr}  (T:Tx K mg C) (R:Rx K mg J9 Ka Kb Kc) (D:Df K mg "all_runs" fO ["house"])   : Has P w K mg base 1 "all_runs" 1 (fF C):=D.has fun f fd Fu=>nY (k:=0) Fu nr rfl fun cdv A outer s H E hr=>by
 have hu:=dR hr
 have nd:=nr.nd
 refine aq ?_ ?_
 ·refine aP (i:=1) ?_ ?_
  ·exact nd
  ·exact (cG ai)
 ·refine aq ?_ ?_
  ·refine eV PassesOwn.never rfl ?_ (aG (i:=2) (by exact nd) rfl (by first|exact Or.inl rfl|exact Or.inr rfl)) (aJ 2) ?_
   ·exact (qj T.b_range (ae (jb (ah 0 (pv 0)) T.cl T.n_colours) ai))
   ·refine ay ?_
    refine eV PassesOwn.never rfl ?_ (aG (i:=3) (by exact nd) rfl (by first|exact Or.inl rfl|exact Or.inr rfl)) (aJ 3) ?_
    ·exact (pV T.b_range (ae ak (ae (aM bA (jb (ah 0 (pv 0)) T.cl T.n_most) ak) ai)))
    ·refine aq ?_ ?_
     ·refine aP (i:=4) ?_ ?_
      ·exact nd
      ·exact (aM bA (aM iX (jb (ah 0 (pv 0)) T.cl T.n_most) (ah 3 (pv 3))) ak)
     ·refine ay ?_
      refine tN (pv 1) ?_
      exact (cA (N':=["size", "colour", "first"]) (CompSc.fit (sc:=ao fO) (N:=["house", "found", "colour", "first", "room"]) ⟨rfl,0x2,0x2,0x2,rfl,0x2⟩) 0x3 rfl (pV T.b_range (ae (hV T.i_LEAST_SIZE) (ae (aM bA (ah 4 (pv 4)) ak) ai))) (aJ 0) (bw 0x3) (fun _ _ _ _=>(aG (i:=0) (show List.Nodup (["size", "colour", "first"]:List Str) by decide +kernel) rfl (by first|exact Or.inl rfl|exact Or.inr rfl))) (fun _ _ _ _=>eX) (fun _ _ _ _=>(by refine cX ?_; (exact (by refine ae ?_ ?_; (exact (qe 0x2)); (exact (by refine ae ?_ ?_; (exact (ah 1 (pv 1))); (exact (by refine ae ?_ ?_; (exact (ah 2 (pv 2))); (exact (by refine ae ?_ ?_; (exact (ah 0 (pv 0))); (exact ai))))))))))))
  ·refine ay ?_
   exact aS (ah 1 (pv 1))
noncomputable abbrev lZ:Stmt:=jO 28
theorem u3:FnScope ["house"] ["house"] (ao lZ):=⟨rfl,rfl,rfl,0x2,rfl,0x2,0x2⟩
theorem sO {C J9 Ka Kb Kc:Addr}  (T:Tx K mg C) (R:Rx K mg J9 Ka Kb Kc) (D:Df K mg "melds" lZ ["house"])  (iP:Has P w K mg base 2 "all_groups" 1 (dQ C)) (ly:Has P w K mg base 1 "all_runs" 1 (fF C)):Has P w K mg base 3 "melds" 1 (lG C):=D.has fun f fd Fu=>nY (k:=2) Fu u3 rfl fun cdv A outer s H E hr=>by
 have hu:=dR hr
 have nd:=u3.nd
 refine ay ?_
 exact aS (aM bA (aU (iP.mono 0x3) hr (ae (ah 0 (pv 0)) ai)) (aU (ly.mono 0x3) hr (ae (ah 0 (pv 0)) ai)))
noncomputable abbrev kj:Stmt:=jO 30
theorem uN:FnScope ["tiles"] ["tiles"] (ao kj):=⟨rfl,rfl,rfl,0x2,rfl,0x2,0x2⟩
theorem sk {C J9 Ka Kb Kc:Addr}  (T:Tx K mg C) (R:Rx K mg J9 Ka Kb Kc) (D:Df K mg "total" kj ["tiles"])   : Has P w K mg base 1 "total" 1 (lR):=D.has fun f fd Fu=>nY (k:=0) Fu uN rfl fun cdv A outer s H E hr=>by
 have hu:=dR hr
 have nd:=uN.nd
 refine ay ?_
 exact aS (aV (Gn rfl) rfl T.b_sum E7 (ae (cA (N':=["tile"]) (CompSc.fit (sc:=ao kj) (N:=["tiles"]) ⟨rfl,0x2,0x2,0x2,rfl,0x2⟩) 0x3 rfl (eK (ah 0 (pv 0))) (aJ 0) (bw 0x3) (fun _ _ _ _=>(aG (i:=0) (show List.Nodup (["tile"]:List Str) by decide +kernel) rfl (by first|exact Or.inl rfl|exact Or.inr rfl))) (fun _ _ _ _=>eX) (fun _ _ _ _=>(bD (ah 0 (pv 0)) ak))) ai))
noncomputable abbrev iz:Stmt:=jO 31
theorem oK:FnScope ["tiles", "jokers", "wanted", "rest", "tile", "from_hand"] ["tiles", "jokers", "wanted"] (ao iz):=⟨rfl,rfl,rfl,0x2,rfl,0x2,0x2⟩
theorem dk {C J9 Ka Kb Kc:Addr}  (T:Tx K mg C) (R:Rx K mg J9 Ka Kb Kc) (D:Df K mg "lay_out" iz ["tiles", "jokers", "wanted"])   : Has P w K mg base 1 "lay_out" 3 (bx):=D.has fun f fd Fu=>nY (k:=0) Fu oK rfl fun cdv A outer s H E hr=>by
 have hu:=dR hr
 have nd:=oK.nd
 refine aq ?_ ?_
 ·refine aP (i:=3) ?_ ?_
  ·exact nd
  ·exact (mU C5 rfl T.b_list Di (ae (ah 0 (pv 0)) ai))
 ·refine aq ?_ ?_
  ·refine eV PassesOwn.never rfl ?_ (aG (i:=4) (by exact nd) rfl (by first|exact Or.inl rfl|exact Or.inr rfl)) (aJ 4) ?_
   ·exact (eK (ah 2 (pv 2)))
   ·refine ay ?_
    refine de ?_ ?_ ?_
    ·exact (bK (zW hu) (ah 4 (pv 4)) (ah 3 (pv 3)))
    ·refine ay ?_
     refine Gx hu (pv 3) ?_
     exact (ah 4 (pv 4))
    ·exact bV
  ·refine aq ?_ ?_
   ·refine aP (i:=5) ?_ ?_
    ·exact nd
    ·exact (aM iX (aV eQ rfl T.b_len eA (ae (ah 0 (pv 0)) ai)) (aV eQ rfl T.b_len eA (ae (ah 3 (pv 3)) ai)))
   ·refine ay ?_
    exact aS (DL (ae (ah 3 (pv 3)) (ae (aM iX (ah 1 (pv 1)) (aM iX (aV eQ rfl T.b_len eA (ae (ah 2 (pv 2)) ai)) (ah 5 (pv 5)))) ai)))
noncomputable abbrev cq:Stmt:=jO 32
theorem gH:FnScope ["house", "laying", "wanted", "meld"] ["house", "laying"] (ao cq):=⟨rfl,rfl,rfl,0x2,rfl,0x2,0x2⟩
theorem eO {C J9 Ka Kb Kc:Addr}  (T:Tx K mg C) (R:Rx K mg J9 Ka Kb Kc) (D:Df K mg "tiles_of_laying" cq ["house", "laying"])  (gJ:HasX P w K mg base 4 "tiles_of" 2 (bu C Kb)) (dY:Has P w K mg base 1 "is_in_order" 1 (bj)):HasX P w K mg base 5 "tiles_of_laying" 2 (cw C Kb):=D.hasX fun f fd Fu=>EJ (k:=4) Fu gH rfl fun cdv A outer s H E hr=>by
 have hu:=dR hr
 have nd:=gH.nd
 refine aq ?_ ?_
 ·refine aP (i:=2) ?_ ?_
  ·exact nd
  ·exact (cG ai)
 ·refine aq ?_ ?_
  ·refine eV PassesOwn.leaving rfl ?_ (aG (i:=3) (by exact nd) rfl (by first|exact Or.inl rfl|exact Or.inr rfl)) (aJ 3) ?_
   ·exact (eK (ah 1 (pv 1)))
   ·refine ay ?_
    refine tN (pv 2) ?_
    exact (by refine cv (gJ.mono 0x3) hr gq ?_; exact (ae (ah 0 (pv 0)) (ae (ah 3 (pv 3)) ai)))
  ·refine aq ?_ ?_
   ·refine de ?_ ?_ ?_
    ·exact (ic (kQ (aU (dY.mono 0x3) hr (ae (ah 1 (pv 1)) ai))))
    ·refine ay ?_
     exact lS (ma hr) R.x_BadLaying
    ·exact bV
   ·refine ay ?_
    exact aS (ah 2 (pv 2))
noncomputable abbrev pP:Stmt:=jO 33
theorem yy:FnScope ["house", "hand", "jokers", "laying", "after"] ["house", "hand", "jokers", "laying"] (ao pP):=⟨rfl,rfl,rfl,0x2,rfl,0x2,0x2⟩
theorem w9 {C J9 Ka Kb Kc:Addr}  (T:Tx K mg C) (R:Rx K mg J9 Ka Kb Kc) (D:Df K mg "left" pP ["house", "hand", "jokers", "laying"])  (bU:HasX P w K mg base 3 "check_hand" 3 (bG C J9)) (eO:HasX P w K mg base 5 "tiles_of_laying" 2 (cw C Kb)) (dk:Has P w K mg base 1 "lay_out" 3 (bx)):HasX P w K mg base 6 "left" 4 (mV C J9 Kb):=D.hasX fun f fd Fu=>EJ (k:=5) Fu yy rfl fun cdv A outer s H E hr=>by
 have hu:=dR hr
 have nd:=yy.nd
 refine aq ?_ ?_
 ·refine oi ?_
  exact (by refine cv (bU.mono 0x3) hr gq ?_; exact (by refine ae ?_ ?_; (exact (ah 0 (pv 0))); (exact (ae (ah 1 (pv 1)) (ae (ah 2 (pv 2)) ai)))))
 ·refine aq ?_ ?_
  ·refine aP (i:=4) ?_ ?_
   ·exact nd
   ·exact (aU (dk.mono 0x3) hr (by refine ae ?_ ?_; (exact (ah 1 (pv 1))); (exact (ae (ah 2 (pv 2)) (ae (by refine cv (eO.mono 0x3) hr gq ?_; exact (ae (ah 0 (pv 0)) (ae (ah 3 (pv 3)) ai))) ai)))))
  ·refine aq ?_ ?_
   ·refine de ?_ ?_ ?_
    ·exact (FF 4 (bK (ie hu) (bD (ah 4 (pv 4)) ak) ak))
    ·refine ay ?_
     exact lS (ma hr) R.x_BadLaying
    ·exact bV
   ·refine ay ?_
    exact aS (ah 4 (pv 4))
noncomputable abbrev bM:Stmt:=jO 35
theorem hW:FnScope ["house", "hand", "jokers", "pairs"] ["house", "hand", "jokers"] (ao bM):=⟨rfl,rfl,rfl,0x2,rfl,0x2,0x2⟩
theorem bL {C J9 Ka Kb Kc:Addr}  (T:Tx K mg C) (R:Rx K mg J9 Ka Kb Kc) (D:Df K mg "playable_melds" bM ["house", "hand", "jokers"])  (sO:Has P w K mg base 3 "melds" 1 (lG C)) (gJ:HasX P w K mg base 4 "tiles_of" 2 (bu C Kb)) (dk:Has P w K mg base 1 "lay_out" 3 (bx)):HasX P w K mg base 5 "playable_melds" 3 (bc C Kb):=D.hasX fun f fd Fu=>EJ (k:=4) Fu hW rfl fun cdv A outer s H E hr=>by
 have hu:=dR hr
 have nd:=hW.nd
 refine aq ?_ ?_
 ·refine sW (i:=3) (N':=["meld", "house"]) (CompSc.fit (sc:=ao bM) (N:=["house", "hand", "jokers", "pairs"]) ⟨rfl,0x2,0x2,0x2,rfl,0x2⟩) 0x3 rfl (by exact nd) (eK (aU (sO.mono 0x3) hr (ae (ah 0 (pv 0)) ai))) (aJ 0) (bw 0x3) (fun _ _ _ _=>(aG (i:=0) (show List.Nodup (["meld", "house"]:List Str) by decide +kernel) rfl (by first|exact Or.inl rfl|exact Or.inr rfl))) (fun _ _ _ _=>eX) (fun _ _ _ _=>(cX (ae (ah 0 (pv 0)) (ae (by refine cv (gJ.mono 0x3) hr i7 ?_; exact (ae (ah 1 (pv 1)) (ae (ah 0 (pv 0)) ai))) ai))))
 ·refine fP 3 ?_
  refine ay ?_
  exact aS (cA (N':=["pair", "hand", "jokers"]) (CompSc.fit (sc:=ao bM) (N:=["house", "hand", "jokers", "pairs"]) ⟨rfl,0x2,0x2,0x2,rfl,0x2⟩) 0x3 rfl (eK (ah 3 (pv 3))) (aJ 0) (bw 0x3) (fun _ _ _ _=>(aG (i:=0) (show List.Nodup (["pair", "hand", "jokers"]:List Str) by decide +kernel) rfl (by first|exact Or.inl rfl|exact Or.inr rfl))) (fun _ _ _ _=>mB (bK uE (bD (oO (aU (dk.mono 0x3) hr (by refine ae ?_ ?_; (exact (ah 1 (pv 1))); (exact (ae (ah 2 (pv 2)) (ae (bD (ah 0 (pv 0)) ak) ai)))))) ak) ak)) (fun _ _ _ _=>(ah 0 (pv 0))))
noncomputable abbrev cM:Stmt:=jO 36
theorem hJ:FnScope ["playable", "by_least", "pair", "tile"] ["playable"] (ao cM):=⟨rfl,rfl,rfl,0x2,rfl,0x2,0x2⟩
theorem fL {C J9 Ka Kb Kc:Addr} (T:Tx K mg C) (D:Df K mg "tiles_by_least" cM ["playable"]):Has P w K mg base 1 "tiles_by_least" 1 (zJ P w):=D.has fun f fd Fu=>by
 refine Fu.ok (k:=0) hJ (fun vs H Q E h=>h.1) fun cdv A outer s H vs Q E hr hsp=>?_
 have hu:=dR hr
 have nd:=hJ.nd
 refine ⟨_,Dg (fi1:=kG (af 0)) (fi2:=kG (uy (e2 bN (af 2) (eC (.int 1))) (e2 aH (eC (.int 2)) (eC (.int 1))))) (fp:=e2 bN (af 2) (eC (.int 1))) PassesOwn.never rfl ?_ (eK (ah 0 (pv 0))) (aG (i:=2) (by exact nd) rfl (by first|exact Or.inl rfl|exact Or.inr rfl)) (by intro _; rfl)
  (eK (xT (bD (ah 2 (pv 2)) ak) (aM bA (hV T.i_MOST_JOKERS) ak))) (aG (i:=3) (by exact nd) rfl (by first|exact Or.inl rfl|exact Or.inr rfl)) (F9 (uv PySem.F.plainAttrs_list PySem.F.slot_list_append PySem.F.type_list_append rZ (HW (GR hu) (pv 1) (pv 3) (AA kR)) (j8 (bD (E:=E0) (ah 2 (pv 2)) ak) kR))) (by intro _; rfl) (pv 1) (fun xs c d=>rfl) ?_ ?_,?_⟩
 ·exact AJ (i:=1) nd rfl (by first|exact Or.inl rfl|exact Or.inr rfl) Cp
 ·intro a c m ts; rw [<-Ih]; rfl
 ·intro a c m ts; rfl
 ·obtain ⟨_,O,xs,x,dom,rx,e,q⟩:=hsp
  unfold zJ at e
  split at e
  ·rename_i ps
   obtain ⟨wss,e1,e2⟩:=bt e
   split at e2
   ·rename_i hl
    cases e2
    exact ⟨O,ps,wss,RS.start (N:=["playable", "by_least", "pair", "tile"]) dom rx,e1,hl,q⟩
   ·cases e2
  ·cases e
noncomputable abbrev yK:Stmt:=j9 (jO 37) 0
theorem HF:FnScope ["self", "playable"] ["self", "playable"] (ao yK):=⟨rfl,rfl,rfl,0x2,rfl,0x2,0x2⟩
theorem Fd {CT:Addr} {fM:PyData->Option Int} {UM:List PyData} (TT:Tt K CT) (fL:Has P w K mg base 1 "tiles_by_least" 1 (zJ P w)) {f:Addr} {fd:FuncData} (Fu:Fun K "__init__" "Table.__init__" yK f fd):FnOk P w K mg base so 2 f fd ["self", "playable"] (ID P w CT fM UM):=by
 refine Fu.ok (k:=1) HF (fun vs H Q E h=>?_) fun cdv A outer s H vs Q E hr hsp=>⟨_,fX (tO (pv 0) (aU (E:=E0) fL hr (ae (ah 1 (pv 1)) ai)) rfl) (fS (tO (pv 0) (Dm (f:=fM) (U:=UM)) rfl)),?_⟩
 ·obtain ⟨p,dx,v,O,xs,wss,rfl,_⟩:=h
  rfl
 ·have hv:∃a b,vs=[a,b]:=by
   obtain ⟨p,dx,v,O,xs,wss,rfl,_⟩:=hsp
   exact ⟨_,_,rfl⟩
  obtain ⟨a,b,rfl⟩:=hv
  refine zq (X:=(fu so P w K mg base ["self", "playable"] "Table.__init__" (ao yK) f cdv A outer s H E).nox) (C:=CT) (f:=fM) (U:=UM) TT.cl TT.n_by_least TT.n_known hsp fun xs wss e hl=>?_
  show bd (op (args [DV.d (.list xs)])) (fun ys=>if ys.length=1 then Fm (zJ P w ys) else none)=_
  rw [show args [DV.d (.list xs)]=some [DV.d (.list xs)] from rfl]
  show Fm (zJ P w [DV.d (.list xs)])=_
  show Fm (bd (op (fY xs)) fun wss=>if wss.length<=1000 then rt (DV.fz (.dl P w (kW wss))) else none)=_
  rw [e]
  show Fm (if wss.length<=1000 then _ else none)=_
  rw [if_pos hl]; rfl
noncomputable abbrev iL:Stmt:=j9 (jO 37) 1
theorem xi:FnScope ["self", "tiles", "jokers", "after"] ["self", "tiles", "jokers"] (ao iL):=⟨rfl,rfl,rfl,0x2,rfl,0x2,0x2⟩
theorem mX {C CT J9 Ka Kb Kc:Addr} {k:Nat} (T:Tx K mg C) (R:Rx K mg J9 Ka Kb Kc) (TT:Tt K CT) (D:uU K CT "ways" "Table.ways" iL ["self", "tiles", "jokers"])   (dk:Has P w K mg base 1 "lay_out" 3 (bx)):HasM P w K mg base (k+11) CT "ways" 3 (ju P w CT):=D.has (pz 0x2 0x2) fun f fd Fu=>nY (k:=k+10) Fu xi rfl fun cdv A outer s H E hr=>by
 have hu:=dR hr
 have nd:=xi.nd
 refine aq ?_ ?_
 ·refine sW (i:=3) (N':=["wanted", "tiles", "jokers"]) (CompSc.fit (sc:=ao iL) (N:=["self", "tiles", "jokers", "after"]) ⟨rfl,0x2,0x2,0x2,rfl,0x2⟩) 0x3 rfl (by exact nd) (eK (DE (GR hu) TT.cl TT.n_by_least (ah 0 (pv 0)) (bD (ah 1 (pv 1)) ak) (cG ai))) (aJ 0) (bw 0x3) (fun _ _ _ _=>(aG (i:=0) (show List.Nodup (["wanted", "tiles", "jokers"]:List Str) by decide +kernel) rfl (by first|exact Or.inl rfl|exact Or.inr rfl))) (fun _ _ _ _=>eX) (fun _ _ _ _=>(aU (dk.mono 0x1) hr (by refine ae ?_ ?_; (exact (ah 1 (pv 1))); (exact (ae (ah 2 (pv 2)) (ae (ah 0 (pv 0)) ai))))))
 ·refine fP 3 ?_
  refine ay ?_
  exact aS (cA (N':=["way"]) (CompSc.fit (sc:=ao iL) (N:=["self", "tiles", "jokers", "after"]) ⟨rfl,0x2,0x2,0x2,rfl,0x2⟩) 0x3 rfl (eK (ah 3 (pv 3))) (aJ 0) (bw 0x3) (fun _ _ _ _=>(aG (i:=0) (show List.Nodup (["way"]:List Str) by decide +kernel) rfl (by first|exact Or.inl rfl|exact Or.inr rfl))) (fun _ _ _ _=>mB (bK uE (bD (ah 0 (pv 0)) ak) ak)) (fun _ _ _ _=>(ah 0 (pv 0))))
noncomputable abbrev dP:Stmt:=j9 (jO 37) 2
theorem ku:FnScope ["self", "tiles", "jokers", "key"] ["self", "tiles", "jokers"] (ao dP):=⟨rfl,rfl,rfl,0x2,rfl,0x2,0x2⟩
theorem bO {C CT J9 Ka Kb Kc:Addr} {m_search_least:List DV->M DV} {k:Nat} (T:Tx K mg C) (R:Rx K mg J9 Ka Kb Kc) (TT:Tt K CT) (D:uU K CT "least_left" "Table.least_left" dP ["self", "tiles", "jokers"]) (gT:HasM P w K mg base (k+10) CT "search_least" 3 m_search_least)   : HasM P w K mg base (k+11) CT "least_left" 3 (cY P w CT m_search_least):=D.has (pz 0x2 0x2) fun f fd Fu=>nY (k:=k+10) Fu ku rfl fun cdv A outer s H E hr=>by
 have hu:=dR hr
 have nd:=ku.nd
 refine aq ?_ ?_
 ·refine de ?_ ?_ ?_
  ·exact (ic (B8 (ah 1 (pv 1))))
  ·refine ay ?_
   exact aS ak
  ·exact bV
 ·refine aq ?_ ?_
  ·refine aP (i:=3) ?_ ?_
   ·exact nd
   ·exact (cX (ae (mU Aa rfl T.b_tuple zY (ae (ah 1 (pv 1)) ai)) (ae (ah 2 (pv 2)) ai)))
  ·refine CO (GR hu) TT.cl TT.n_known ?_ ?_ ?_ ?_ ?_ ?_ ?_ ?_
   ·exact pv 0
   ·exact pv 0
   ·exact pv 0
   ·exact pv 3
   ·exact pv 3
   ·exact pv 3
   ·exact (by refine fj gT (hr.mono (J5 _)) TT.cl ?_ ?_; (exact (ah 0 (pv 0))); (exact (ae (ah 1 (pv 1)) (ae (ah 2 (pv 2)) ai))))
   ·intro _ _; rfl
noncomputable abbrev cJ:Stmt:=j9 (jO 37) 3
theorem ji:FnScope ["self", "tiles", "jokers", "sums", "rest", "unused"] ["self", "tiles", "jokers"] (ao cJ):=⟨rfl,rfl,rfl,0x2,rfl,0x2,0x2⟩
theorem gT {C CT J9 Ka Kb Kc:Addr} {m_least_left:List DV->M DV} {m_ways:List DV->M DV} {k:Nat} (T:Tx K mg C) (R:Rx K mg J9 Ka Kb Kc) (TT:Tt K CT) (D:uU K CT "search_least" "Table.search_least" cJ ["self", "tiles", "jokers"]) (bO:HasM P w K mg base (k+10) CT "least_left" 3 m_least_left) (mX:HasM P w K mg base (k+10) CT "ways" 3 m_ways)   : HasM P w K mg base (k+11) CT "search_least" 3 (eN P w CT m_ways m_least_left):=D.has (pz 0x2 0x2) fun f fd Fu=>nY (k:=k+10) Fu ji rfl fun cdv A outer s H E hr=>by
 have hu:=dR hr
 have nd:=ji.nd
 refine aq ?_ ?_
 ·refine aP (i:=3) ?_ ?_
  ·exact nd
  ·exact (cG (ae (aM bA (bD (bD (ah 1 (pv 1)) ak) ak) (by refine fj bO (hr.mono (J5 _)) TT.cl ?_ ?_; (exact (ah 0 (pv 0))); (exact (ae (xB (ah 1 (pv 1)) ak) (ae (ah 2 (pv 2)) ai))))) ai))
 ·refine aq ?_ ?_
  ·refine eV PassesOwn.never rfl ?_ (qu rfl (dW (aG (i:=4) (by exact nd) rfl (by first|exact Or.inl rfl|exact Or.inr rfl)) (dW (aG (i:=5) (by exact nd) rfl (by first|exact Or.inl rfl|exact Or.inr rfl)) lL))) (qi (fR (aJ 4) (fR (aJ 5) oH))) ?_
   ·exact (eK (by refine fj mX (hr.mono (J5 _)) TT.cl ?_ ?_; (exact (ah 0 (pv 0))); (exact (ae (ah 1 (pv 1)) (ae (ah 2 (pv 2)) ai)))))
   ·refine ay ?_
    refine r0 (pv 3) ?_
    exact (by refine fj bO (hr.mono (J5 _)) TT.cl ?_ ?_; (exact (ah 0 (pv 0))); (exact (ae (ah 4 (pv 4)) (ae (ah 5 (pv 5)) ai))))
  ·refine ay ?_
   exact aS (aV (Eu rfl) rfl T.b_min sU (ae (ah 3 (pv 3)) ai))
noncomputable abbrev iw:Stmt:=j9 (jO 37) 4
theorem qZ:FnScope ["self", "tiles", "jokers", "rest", "unused"] ["self", "tiles", "jokers"] (ao iw):=⟨rfl,rfl,rfl,0x2,rfl,0x2,0x2⟩
theorem fU {C CT J9 Ka Kb Kc:Addr} {m_ways:List DV->M DV} {m_covers:List DV->M DV} {k:Nat} (T:Tx K mg C) (R:Rx K mg J9 Ka Kb Kc) (TT:Tt K CT) (D:uU K CT "covers" "Table.covers" iw ["self", "tiles", "jokers"]) (mX:HasM P w K mg base (k+10) CT "ways" 3 m_ways) (fU:HasM P w K mg base (k+10) CT "covers" 3 m_covers)   : HasM P w K mg base (k+11) CT "covers" 3 (gW P w CT m_ways m_covers):=D.has (pz 0x2 0x2) fun f fd Fu=>nY (k:=k+10) Fu qZ rfl fun cdv A outer s H E hr=>by
 have hu:=dR hr
 have nd:=qZ.nd
 refine aq ?_ ?_
 ·refine de ?_ ?_ ?_
  ·exact (ic (B8 (ah 1 (pv 1))))
  ·refine ay ?_
   exact aS jY
  ·exact bV
 ·refine aq ?_ ?_
  ·refine eV PassesOwn.never rfl ?_ (qu rfl (dW (aG (i:=3) (by exact nd) rfl (by first|exact Or.inl rfl|exact Or.inr rfl)) (dW (aG (i:=4) (by exact nd) rfl (by first|exact Or.inl rfl|exact Or.inr rfl)) lL))) (qi (fR (aJ 3) (fR (aJ 4) oH))) ?_
   ·exact (eK (by refine fj mX (hr.mono (J5 _)) TT.cl ?_ ?_; (exact (ah 0 (pv 0))); (exact (ae (ah 1 (pv 1)) (ae (ah 2 (pv 2)) ai)))))
   ·refine ay ?_
    refine de ?_ ?_ ?_
    ·exact (kQ (by refine fj fU (hr.mono (J5 _)) TT.cl ?_ ?_; (exact (ah 0 (pv 0))); (exact (ae (ah 3 (pv 3)) (ae (ah 4 (pv 4)) ai)))))
    ·refine ay ?_
     exact aS jY
    ·exact bV
  ·refine ay ?_
   exact aS jY
noncomputable abbrev dD:Stmt:=jO 38
theorem jf:FnScope ["table", "playable", "hand", "jokers", "goal", "laying", "rest", "unused", "meld", "wanted", "after"] ["table", "playable", "hand", "jokers"] (ao dD):=⟨rfl,rfl,rfl,0x2,rfl,0x2,0x2⟩
theorem gN {C CT J9 Ka Kb Kc:Addr} {m_least_left:List DV->M DV} (T:Tx K mg C) (R:Rx K mg J9 Ka Kb Kc) (D:Df K mg "first_laying" dD ["table", "playable", "hand", "jokers"]) (TT:Tt K CT) (bO:HasM P w K mg base 60 CT "least_left" 3 m_least_left)  (dk:Has P w K mg base 1 "lay_out" 3 (bx)):Has P w K mg base 61 "first_laying" 4 (dB P w CT m_least_left):=D.has fun f fd Fu=>nY (k:=60) Fu jf rfl fun cdv A outer s H E hr=>by
 have hu:=dR hr
 have nd:=jf.nd
 refine aq ?_ ?_
 ·refine aP (i:=4) ?_ ?_
  ·exact nd
  ·exact (by refine fj bO (hr.mono 0x3) TT.cl ?_ ?_; (exact (ah 0 (pv 0))); (exact (ae (ah 2 (pv 2)) (ae (ah 3 (pv 3)) ai))))
 ·refine aq ?_ ?_
  ·refine aP (i:=5) ?_ ?_
   ·exact nd
   ·exact (cG ai)
  ·refine aq ?_ ?_
   ·refine aP (i:=6) ?_ ?_
    ·exact nd
    ·exact (ah 2 (pv 2))
   ·refine aq ?_ ?_
    ·refine aP (i:=7) ?_ ?_
     ·exact nd
     ·exact (ah 3 (pv 3))
    ·refine aq ?_ ?_
     ·refine eV PassesOwn.never rfl ?_ (qu rfl (dW (aG (i:=8) (by exact nd) rfl (by first|exact Or.inl rfl|exact Or.inr rfl)) (dW (aG (i:=9) (by exact nd) rfl (by first|exact Or.inl rfl|exact Or.inr rfl)) lL))) (qi (fR (aJ 8) (fR (aJ 9) oH))) ?_
      ·exact (eK (ah 1 (pv 1)))
      ·refine aq ?_ ?_
       ·refine aP (i:=10) ?_ ?_
        ·exact nd
        ·exact (oO (aU (dk.mono 0x3) hr (by refine ae ?_ ?_; (exact (ah 6 (pv 6))); (exact (ae (ah 7 (pv 7)) (ae (ah 9 (pv 9)) ai))))))
       ·refine ay ?_
        refine zI 100 PassesOwn.never ?_ ?_
        ·exact (zh.pb (vV (bK uE (bD (ah 10 (pv 10)) ak) ak) (sF (bK (jP hu) (by refine fj bO (hr.mono 0x3) TT.cl ?_ ?_; (exact (ah 0 (pv 0))); (exact (ae (bD (ah 10 (pv 10)) ak) (ae (bD (ah 10 (pv 10)) ak) ai)))) (ah 4 (pv 4))))))
        ·refine aq ?_ ?_
         ·refine r0 (pv 5) ?_
          exact (ah 8 (pv 8))
         ·refine aq ?_ ?_
          ·refine aP (i:=6) ?_ ?_
           ·exact nd
           ·exact (bD (ah 10 (pv 10)) ak)
          ·refine aq ?_ ?_
           ·refine aP (i:=7) ?_ ?_
            ·exact nd
            ·exact (bD (ah 10 (pv 10)) ak)
           ·refine ay ?_
            refine aP (i:=10) ?_ ?_
            ·exact nd
            ·exact (oO (aU (dk.mono 0x3) hr (by refine ae ?_ ?_; (exact (ah 6 (pv 6))); (exact (ae (ah 7 (pv 7)) (ae (ah 9 (pv 9)) ai))))))
     ·refine ay ?_
      exact aS (ah 5 (pv 5))
noncomputable abbrev pD:Stmt:=jO 39
theorem xu:FnScope ["house", "hand", "jokers", "playable", "table", "greatest"] ["house", "hand", "jokers"] (ao pD):=⟨rfl,rfl,rfl,0x2,rfl,0x2,0x2⟩
theorem wW {C CT J9 Ka Kb Kc:Addr} {m_least_left:List DV->M DV} (T:Tx K mg C) (R:Rx K mg J9 Ka Kb Kc) (D:Df K mg "best" pD ["house", "hand", "jokers"]) (TT:Tt K CT) (h_Table:∀fM UM,HsT P w K mg base "Table" CT 2 fM UM) (bO:HasM P w K mg base 60 CT "least_left" 3 m_least_left)  (bU:HasX P w K mg base 3 "check_hand" 3 (bG C J9)) (bL:HasX P w K mg base 5 "playable_melds" 3 (bc C Kb)) (sk:Has P w K mg base 1 "total" 1 (lR)) (gN:Has P w K mg base 61 "first_laying" 4 (dB P w CT m_least_left)):HasX P w K mg base 62 "best" 3 (gm P w C CT J9 Kb m_least_left):=by
 rw [vR]
 refine D.hasX fun f fd Fu=>IS (fm:=fun (g:(PyData->Option Int)×List PyData)=>eG ["house", "hand", "jokers", "playable", "table", "greatest"] (tF P w C CT J9 Kb g.1 g.2 m_least_left)) rg fun g=>EJ (k:=61) Fu xu rfl fun cdv A outer s H E hr=>?_
 have hu:=dR hr
 have nd:=xu.nd
 refine aq ?_ ?_
 ·refine oi ?_
  exact (by refine cv (bU.mono 0x3) hr gq ?_; exact (by refine ae ?_ ?_; (exact (ah 0 (pv 0))); (exact (ae (ah 1 (pv 1)) (ae (ah 2 (pv 2)) ai)))))
 ·refine aq ?_ ?_
  ·refine aP (i:=3) ?_ ?_
   ·exact nd
   ·exact (by refine cv (bL.mono 0x3) hr gq ?_; exact (by refine ae ?_ ?_; (exact (ah 0 (pv 0))); (exact (ae (ah 1 (pv 1)) (ae (ah 2 (pv 2)) ai)))))
  ·refine fP 3 ?_
   refine aq ?_ ?_
   ·refine aP (i:=4) ?_ ?_
    ·exact nd
    ·exact (by refine wg (h_Table g.1 g.2) (hr.mono 0x3) ?_; exact (ae (ah 3 (pv 3)) ai))
   ·refine aq ?_ ?_
    ·refine aP (i:=5) ?_ ?_
     ·exact nd
     ·exact (aM iX (aU (sk.mono 0x3) hr (ae (ah 1 (pv 1)) ai)) (by refine fj bO (hr.mono 0x3) TT.cl ?_ ?_; (exact (ah 4 (pv 4))); (exact (ae (ah 1 (pv 1)) (ae (ah 2 (pv 2)) ai)))))
    ·refine fP 3 ?_
     refine ay ?_
     exact aS (DK (ae (ah 5 (pv 5)) (ae (aU (gN.mono 0x3) hr (by refine ae ?_ ?_; (exact (ah 4 (pv 4))); (exact (by refine ae ?_ ?_; (exact (ah 3 (pv 3))); (exact (by refine ae ?_ ?_; (exact (ah 1 (pv 1))); (exact (by refine ae ?_ ?_; (exact (ah 2 (pv 2))); (exact ai))))))))) ai)))
noncomputable abbrev gS:Stmt:=jO 40
theorem nu:FnScope ["house", "hand", "jokers"] ["house", "hand", "jokers"] (ao gS):=⟨rfl,rfl,rfl,0x2,rfl,0x2,0x2⟩
theorem gA {C CT J9 Ka Kb Kc:Addr} {m_covers:List DV->M DV} (T:Tx K mg C) (R:Rx K mg J9 Ka Kb Kc) (D:Df K mg "goes_out" gS ["house", "hand", "jokers"]) (TT:Tt K CT) (h_Table:∀fM UM,HsT P w K mg base "Table" CT 2 fM UM) (fU:HasM P w K mg base 60 CT "covers" 3 m_covers)  (bU:HasX P w K mg base 3 "check_hand" 3 (bG C J9)) (bL:HasX P w K mg base 5 "playable_melds" 3 (bc C Kb)):HasX P w K mg base 61 "goes_out" 3 (bz P w C CT J9 Kb m_covers):=by
 rw [qw]
 refine D.hasX fun f fd Fu=>IS (fm:=fun (g:(PyData->Option Int)×List PyData)=>eG ["house", "hand", "jokers"] (iM P w C CT J9 Kb g.1 g.2 m_covers)) rg fun g=>EJ (k:=60) Fu nu rfl fun cdv A outer s H E hr=>?_
 have hu:=dR hr
 have nd:=nu.nd
 refine aq ?_ ?_
 ·refine oi ?_
  exact (by refine cv (bU.mono 0x3) hr gq ?_; exact (by refine ae ?_ ?_; (exact (ah 0 (pv 0))); (exact (ae (ah 1 (pv 1)) (ae (ah 2 (pv 2)) ai)))))
 ·refine ay ?_
  exact aS (by refine fj fU (hr.mono 0x3) TT.cl ?_ ?_; (exact (by refine wg (h_Table g.1 g.2) (hr.mono 0x3) ?_; exact (ae (by refine cv (bL.mono 0x3) hr gq ?_; exact (by refine ae ?_ ?_; (exact (ah 0 (pv 0))); (exact (ae (ah 1 (pv 1)) (ae (ah 2 (pv 2)) ai))))) ai))); (exact (ae (ah 1 (pv 1)) (ae (ah 2 (pv 2)) ai))))
noncomputable abbrev fN:Stmt:=jO 41
theorem qp:FnScope ["house", "hand", "jokers", "table", "room"] ["house", "hand", "jokers"] (ao fN):=⟨rfl,rfl,rfl,0x2,rfl,0x2,0x2⟩
theorem j6 {C CT J9 Ka Kb Kc:Addr} {m_covers:List DV->M DV} (T:Tx K mg C) (R:Rx K mg J9 Ka Kb Kc) (D:Df K mg "helpers" fN ["house", "hand", "jokers"]) (TT:Tt K CT) (h_Table:∀fM UM,HsT P w K mg base "Table" CT 2 fM UM) (fU:HasM P w K mg base 60 CT "covers" 3 m_covers)  (bU:HasX P w K mg base 3 "check_hand" 3 (bG C J9)) (bL:HasX P w K mg base 5 "playable_melds" 3 (bc C Kb)) (jM:Has P w K mg base 1 "all_tiles" 1 (fV C)):HasX P w K mg base 61 "helpers" 3 (cB P w C CT J9 Kb m_covers):=by
 rw [qM]
 refine D.hasX fun f fd Fu=>IS (fm:=fun (g:(PyData->Option Int)×List PyData)=>eG ["house", "hand", "jokers", "table", "room"] (j1 P w C CT J9 Kb g.1 g.2 m_covers)) rg fun g=>EJ (k:=60) Fu qp rfl fun cdv A outer s H E hr=>?_
 have hu:=dR hr
 have nd:=qp.nd
 refine aq ?_ ?_
 ·refine oi ?_
  exact (by refine cv (bU.mono 0x3) hr gq ?_; exact (by refine ae ?_ ?_; (exact (ah 0 (pv 0))); (exact (ae (ah 1 (pv 1)) (ae (ah 2 (pv 2)) ai)))))
 ·refine aq ?_ ?_
  ·refine de ?_ ?_ ?_
   ·exact (bK (jP hu) (aV eQ rfl T.b_len eA (ae (ah 1 (pv 1)) ai)) (hV T.i_MOST_TILES))
   ·refine ay ?_
    exact aS (cG ai)
   ·exact bV
  ·refine aq ?_ ?_
   ·refine aP (i:=3) ?_ ?_
    ·exact nd
    ·exact (by refine wg (h_Table g.1 g.2) (hr.mono 0x3) ?_; exact (ae (by refine cv (bL.mono 0x3) hr gq ?_; exact (by refine ae ?_ ?_; (exact (ah 0 (pv 0))); (exact (ae (ah 1 (pv 1)) (ae (aM bA (ah 2 (pv 2)) ak) ai))))) ai))
   ·refine aq ?_ ?_
    ·refine sW (i:=4) (N':=["tile", "hand"]) (CompSc.fit (sc:=ao fN) (N:=["house", "hand", "jokers", "table", "room"]) ⟨rfl,0x2,0x2,0x2,rfl,0x2⟩) 0x3 rfl (by exact nd) (eK (aU (jM.mono 0x3) hr (ae (ah 0 (pv 0)) ai))) (aJ 0) (bw 0x3) (fun _ _ _ _=>(aG (i:=0) (show List.Nodup (["tile", "hand"]:List Str) by decide +kernel) rfl (by first|exact Or.inl rfl|exact Or.inr rfl))) (fun _ _ _ _=>mB (bK (ie hu) (jD hu (ah 1 (pv 1)) (ah 0 (pv 0))) (hV T.i_MOST_ALIKE))) (fun _ _ _ _=>(ah 0 (pv 0)))
    ·refine fP 4 ?_
     refine ay ?_
     exact aS (cA (N':=["tile", "jokers", "table", "hand"]) (CompSc.fit (sc:=ao fN) (N:=["house", "hand", "jokers", "table", "room"]) ⟨rfl,0x2,0x2,0x2,rfl,0x2⟩) 0x3 rfl (eK (ah 4 (pv 4))) (aJ 0) (bw 0x3) (fun _ _ _ _=>(aG (i:=0) (show List.Nodup (["tile", "jokers", "table", "hand"]:List Str) by decide +kernel) rfl (by first|exact Or.inl rfl|exact Or.inr rfl))) (fun _ _ _ _=>mB (kQ (by refine fj fU (hr.mono 0x3) TT.cl ?_ ?_; (exact (ah 2 (pv 2))); (exact (ae (aV (iH hu) rfl T.b_sorted iy (ae (aM bA (ah 3 (pv 3)) (cG (ae (ah 0 (pv 0)) ai))) ai)) (ae (ah 1 (pv 1)) ai)))))) (fun _ _ _ _=>(ah 0 (pv 0))))
noncomputable abbrev dC:Stmt:=jO 43
theorem je:FnScope ["script", "k"] ["script", "k"] (ao dC):=⟨rfl,rfl,rfl,0x2,rfl,0x2,0x2⟩
theorem bo {C J9 Ka Kb Kc:Addr}  (T:Tx K mg C) (R:Rx K mg J9 Ka Kb Kc) (D:Df K mg "_law_cell_at" dC ["script", "k"])   : Has P w K mg base 1 "_law_cell_at" 2 (aF K):=D.has fun f fd Fu=>nY (k:=0) Fu je rfl fun cdv A outer s H E hr=>by
 have hu:=dR hr
 have nd:=je.nd
 refine aq ?_ ?_
 ·refine de ?_ ?_ ?_
  ·exact (bK (ie hu) (ah 1 (pv 1)) (aV C7 rfl T.b_len eA (ae (ah 0 (pv 0)) ai)))
  ·refine ay ?_
   exact aS (Fo (ah 0 (pv 0)) (ah 1 (pv 1)))
  ·exact bV
 ·refine ay ?_
  exact aS ak
noncomputable abbrev gR:Stmt:=jO 44
theorem ng:FnScope ["cell", "k", "many", "some", "stir"] ["cell", "k", "many"] (ao gR):=⟨rfl,rfl,rfl,0x2,rfl,0x2,0x2⟩
theorem ba {C J9 Ka Kb Kc:Addr}  (T:Tx K mg C) (R:Rx K mg J9 Ka Kb Kc) (D:Df K mg "_law_mix" gR ["cell", "k", "many"])   : Has P w K mg base 1 "_law_mix" 3 (aw):=D.has fun f fd Fu=>nY (k:=0) Fu ng rfl fun cdv A outer s H E hr=>by
 have hu:=dR hr
 have nd:=ng.nd
 refine aq ?_ ?_
 ·refine aP (i:=3) ?_ ?_
  ·exact nd
  ·exact (by refine cG ?_; (exact (by refine ae ?_ ?_; (exact (by exact ak)); (exact (by refine ae ?_ ?_; (exact (by exact ak)); (exact (by refine ae ?_ ?_; (exact (by exact ak)); (exact (by refine ae ?_ ?_; (exact (by exact ak)); (exact (by refine ae ?_ ?_; (exact (by exact ak)); (exact (by refine ae ?_ ?_; (exact (by exact ak)); (exact (by refine ae ?_ ?_; (exact (by exact ak)); (exact (by refine ae ?_ ?_; (exact (by exact ak)); (exact (by refine ae ?_ ?_; (exact (by exact ak)); (exact (by refine ae ?_ ?_; (exact (by exact ak)); (exact (by refine ae ?_ ?_; (exact (by exact ak)); (exact (by refine ae ?_ ?_; (exact (by exact ak)); (exact (by refine ae ?_ ?_; (exact (by exact ak)); (exact ai))))))))))))))))))))))))))))
 ·refine aq ?_ ?_
  ·refine aP (i:=4) ?_ ?_
   ·exact nd
   ·exact (aM bX (aM bX (aM gX (aM bX (aM ja (ah 0 (pv 0)) (by exact ak)) (by exact ak)) (bD (ah 3 (pv 3)) (aM ja (ah 1 (pv 1)) ak))) (aM gX (by exact ak) (ah 1 (pv 1)))) (aM gX (by exact ak) (aM zK (ah 1 (pv 1)) ak)))
  ·refine aq ?_ ?_
   ·refine aP (i:=4) ?_ ?_
    ·exact nd
    ·exact (aM ja (ah 4 (pv 4)) (by exact ak))
   ·refine ay ?_
    exact aS (aM ja (aM zK (aM ja (aM bX (aM gX (ah 4 (pv 4)) (ah 4 (pv 4))) (aM gX (by exact ak) (ah 1 (pv 1)))) (by exact ak)) ak) (ah 2 (pv 2)))
noncomputable abbrev dc:Stmt:=jO 45
theorem ix:FnScope ["script", "cell"] ["script"] (ao dc):=⟨rfl,rfl,rfl,0x2,rfl,0x2,0x2⟩
theorem fZ {C J9 Ka Kb Kc:Addr}  (T:Tx K mg C) (R:Rx K mg J9 Ka Kb Kc) (D:Df K mg "_law_house_by" dc ["script"])  (bo:Has P w K mg base 1 "_law_cell_at" 2 (aF K)) (ba:Has P w K mg base 1 "_law_mix" 3 (aw)):Has P w K mg base 2 "_law_house_by" 1 (dh K):=D.has fun f fd Fu=>nY (k:=1) Fu ix rfl fun cdv A outer s H E hr=>by
 have hu:=dR hr
 have nd:=ix.nd
 refine aq ?_ ?_
 ·refine aP (i:=1) ?_ ?_
  ·exact nd
  ·exact (aU (bo.mono 0x3) hr (ae (ah 0 (pv 0)) (ae ak ai)))
 ·refine ay ?_
  exact aS (cX (ae (aM bX ak (aU (ba.mono 0x3) hr (by refine ae ?_ ?_; (exact (ah 1 (pv 1))); (exact (ae ak (ae (bD (by refine cG ?_; (exact (by refine ae ?_ ?_; (exact ak); (exact (by refine ae ?_ ?_; (exact ak); (exact (by refine ae ?_ ?_; (exact ak); (exact (by refine ae ?_ ?_; (exact ak); (exact ai)))))))))) (aU (ba.mono 0x3) hr (by refine ae ?_ ?_; (exact (ah 1 (pv 1))); (exact (ae ak (ae ak ai)))))) ai)))))) (ae (aM bX ak (aU (ba.mono 0x3) hr (by refine ae ?_ ?_; (exact (ah 1 (pv 1))); (exact (ae ak (ae ak ai)))))) ai)))
noncomputable abbrev dz:Stmt:=jO 46
theorem jn:FnScope ["tiles", "limit", "found", "tile"] ["tiles", "limit"] (ao dz):=⟨rfl,rfl,rfl,0x2,rfl,0x2,0x2⟩
theorem gM {C J9 Ka Kb Kc:Addr}  (T:Tx K mg C) (R:Rx K mg J9 Ka Kb Kc) (D:Df K mg "_law_trimmed" dz ["tiles", "limit"])   : Has P w K mg base 1 "_law_trimmed" 2 (cb):=D.has fun f fd Fu=>nY (k:=0) Fu jn rfl fun cdv A outer s H E hr=>by
 have hu:=dR hr
 have nd:=jn.nd
 refine aq ?_ ?_
 ·refine aP (i:=2) ?_ ?_
  ·exact nd
  ·exact (cG ai)
 ·refine aq ?_ ?_
  ·refine eV PassesOwn.never rfl ?_ (aG (i:=3) (by exact nd) rfl (by first|exact Or.inl rfl|exact Or.inr rfl)) (aJ 3) ?_
   ·exact (eK (ah 0 (pv 0)))
   ·refine ay ?_
    refine de ?_ ?_ ?_
    ·exact (zh.pb (vV (bK (ie hu) (jD hu (ah 2 (pv 2)) (ah 3 (pv 3))) ak) (sF (bK (ie hu) (aV eQ rfl T.b_len eA (ae (ah 2 (pv 2)) ai)) (ah 1 (pv 1))))))
    ·refine ay ?_
     refine r0 (pv 2) ?_
     exact (ah 3 (pv 3))
    ·exact bV
  ·refine ay ?_
   exact aS (aV (iH hu) rfl T.b_sorted iy (ae (ah 2 (pv 2)) ai))
noncomputable abbrev cf:Stmt:=jO 47
theorem jg:FnScope ["script", "start", "most", "colours", "limit", "tiles", "k", "cell", "number", "colour", "size"] ["script", "start", "most", "colours", "limit"] (ao cf):=⟨rfl,rfl,rfl,0x2,rfl,0x2,0x2⟩
theorem gE {C J9 Ka Kb Kc:Addr}  (T:Tx K mg C) (R:Rx K mg J9 Ka Kb Kc) (D:Df K mg "_law_hand_by" cf ["script", "start", "most", "colours", "limit"])  (bo:Has P w K mg base 1 "_law_cell_at" 2 (aF K)) (ba:Has P w K mg base 1 "_law_mix" 3 (aw)) (gM:Has P w K mg base 1 "_law_trimmed" 2 (cb)):Has P w K mg base 2 "_law_hand_by" 5 (dA K):=D.has fun f fd Fu=>nY (k:=1) Fu jg rfl fun cdv A outer s H E hr=>by
 have hu:=dR hr
 have nd:=jg.nd
 refine aq ?_ ?_
 ·refine aP (i:=5) ?_ ?_
  ·exact nd
  ·exact (cG ai)
 ·refine aq ?_ ?_
  ·refine eV PassesOwn.never rfl ?_ (aG (i:=6) (by exact nd) rfl (by first|exact Or.inl rfl|exact Or.inr rfl)) (aJ 6) ?_
   ·exact (qj T.b_range (ae ak ai))
   ·refine aq ?_ ?_
    ·refine aP (i:=7) ?_ ?_
     ·exact nd
     ·exact (aU (bo.mono 0x3) hr (ae (ah 0 (pv 0)) (ae (aM bX (ah 1 (pv 1)) (ah 6 (pv 6))) ai)))
    ·refine aq ?_ ?_
     ·refine Be ?_ (qu rfl (dW (aG (i:=8) (by exact nd) rfl (by first|exact Or.inl rfl|exact Or.inr rfl)) (dW (aG (i:=9) (by exact nd) rfl (by first|exact Or.inl rfl|exact Or.inr rfl)) lL))) (qi (fR (aJ 8) (fR (aJ 9) oH)))
      exact (cX (ae (aM bX ak (aU (ba.mono 0x3) hr (by refine ae ?_ ?_; (exact (ah 7 (pv 7))); (exact (ae ak (ae (ah 2 (pv 2)) ai)))))) (ae (aU (ba.mono 0x3) hr (by refine ae ?_ ?_; (exact (ah 7 (pv 7))); (exact (ae ak (ae (ah 3 (pv 3)) ai))))) ai)))
     ·refine aq ?_ ?_
      ·refine aP (i:=10) ?_ ?_
       ·exact nd
       ·exact (aM bX ak (aU (ba.mono 0x3) hr (by refine ae ?_ ?_; (exact (ah 7 (pv 7))); (exact (ae ak (ae ak ai))))))
      ·refine aq ?_ ?_
       ·refine de ?_ ?_ ?_
        ·exact (bK (jP hu) (aU (ba.mono 0x3) hr (by refine ae ?_ ?_; (exact (ah 7 (pv 7))); (exact (ae ak (ae ak ai))))) ak)
        ·refine ay ?_
         refine aP (i:=5) ?_ ?_
         ·exact nd
         ·exact (aM bX (ah 5 (pv 5)) (cA (N':=["x", "colour"]) (CompSc.fit (sc:=ao cf) (N:=["script", "start", "most", "colours", "limit", "tiles", "k", "cell", "number", "colour", "size"]) ⟨rfl,0x2,0x2,0x2,rfl,0x2⟩) 0x3 rfl (pV T.b_range (ae (ah 8 (pv 8)) (ae (aM bX (aV (wy rfl) rfl T.b_min sU (ae (ah 2 (pv 2)) (ae (aM iX (aM bX (ah 8 (pv 8)) (ah 10 (pv 10))) ak) ai))) ak) ai))) (aJ 0) (bw 0x3) (fun _ _ _ _=>(aG (i:=0) (show List.Nodup (["x", "colour"]:List Str) by decide +kernel) rfl (by first|exact Or.inl rfl|exact Or.inr rfl))) (fun _ _ _ _=>eX) (fun _ _ _ _=>(cX (ae (ah 0 (pv 0)) (ae (ah 1 (pv 1)) ai))))))
        ·refine ay ?_
         refine aP (i:=5) ?_ ?_
         ·exact nd
         ·exact (aM bX (ah 5 (pv 5)) (cA (N':=["x", "number", "cell"]) (CompSc.fit (sc:=ao cf) (N:=["script", "start", "most", "colours", "limit", "tiles", "k", "cell", "number", "colour", "size"]) ⟨rfl,0x2,0x2,0x2,rfl,0x2⟩) 0x3 rfl (qj T.b_range (ae (ah 3 (pv 3)) ai)) (aJ 0) (bw 0x3) (fun _ _ _ _=>(aG (i:=0) (show List.Nodup (["x", "number", "cell"]:List Str) by decide +kernel) rfl (by first|exact Or.inl rfl|exact Or.inr rfl))) (fun _ _ _ _=>mB (bK Am (aU (ba.mono 0x3) hr (by refine ae ?_ ?_; (exact (ah 2 (pv 2))); (exact (ae (aM bX ak (ah 0 (pv 0))) (ae ak ai))))) ak)) (fun _ _ _ _=>(cX (ae (ah 1 (pv 1)) (ae (ah 0 (pv 0)) ai))))))
       ·refine ay ?_
        refine de ?_ ?_ ?_
        ·exact (bK (jP hu) (aU (ba.mono 0x3) hr (by refine ae ?_ ?_; (exact (ah 7 (pv 7))); (exact (ae ak (ae ak ai))))) ak)
        ·refine ay ?_
         refine r0 (pv 5) ?_
         exact (cX (ae (aM bX ak (aU (ba.mono 0x3) hr (by refine ae ?_ ?_; (exact (ah 7 (pv 7))); (exact (ae ak (ae (ah 2 (pv 2)) ai)))))) (ae (aU (ba.mono 0x3) hr (by refine ae ?_ ?_; (exact (ah 7 (pv 7))); (exact (ae ak (ae (ah 3 (pv 3)) ai))))) ai)))
        ·exact bV
  ·refine aq ?_ ?_
   ·refine de ?_ ?_ ?_
    ·exact (bK (jP hu) (aV eQ rfl T.b_len eA (ae (ah 5 (pv 5)) ai)) ak)
    ·refine ay ?_
     refine aP (i:=5) ?_ ?_
     ·exact nd
     ·exact (cG (ae (cX (ae ak (ae ak ai))) ai))
    ·exact bV
   ·refine aq ?_ ?_
    ·refine de ?_ ?_ ?_
     ·exact (bK (jP hu) (aM ja (aU (bo.mono 0x3) hr (ae (ah 0 (pv 0)) (ae (aM bX (ah 1 (pv 1)) ak) ai))) ak) ak)
     ·refine ay ?_
      exact aS (cG ai)
     ·exact bV
    ·refine fP 5 ?_
     refine ay ?_
     exact aS (aU (gM.mono 0x3) hr (ae (ah 5 (pv 5)) (ae (aM bX ak (aM ja (aU (bo.mono 0x3) hr (ae (ah 0 (pv 0)) (ae (aM bX (ah 1 (pv 1)) ak) ai))) (ah 4 (pv 4)))) ai)))
noncomputable abbrev oU:Stmt:=jO 49
theorem B3:FnScope ["script", "most", "colours", "house", "hand", "jokers", "out", "told", "cell", "k", "tile", "at"] ["script"] (ao oU):=⟨rfl,rfl,rfl,0x2,rfl,0x2,0x2⟩
noncomputable def EV (P:Program) (w:World) (K:Kd) (C:Addr) (CT:Addr) (J9:Addr) (Ka:Addr) (Kb:Addr) (m_least_left:List DV->M DV) (m_covers:List DV->M DV):DS->M Out:=(bE (Cn (kn 2 (cm (ar 1) (cm (ar 2) kM))) (aL (ax 1 (dh K)) (aa (af 0) aj))) (bE (aW 1 (aL sL (aa (af 1) (aa (eC (.int 6)) aj)))) (bE (aW 2 (aL sL (aa (af 2) (aa (eC (.int 3)) aj)))) (bE (aW 3 (FH C Ka (aa (af 1) (aa (af 2) aj)))) (bE (aW 4 (aL (ax 5 (dA K)) (aa (af 0) (aa (eC (.int 2)) (aa (af 1) (aa (af 2) (aa (eC (.int 6)) aj))))))) (bE (aW 5 (e2 jT (aL (ax 2 (aF K)) (aa (af 0) (aa (eC (.int 20)) aj))) (e2 bN (cC (aa (eC (.int 2)) (aa (eC (.int 3)) aj))) (aL Ar (aa (e2 fJ (aL dF (aa (af 4) aj)) (eC (.int 4))) aj))))) (fun δ=>(bE (aW 6 (e2 (g7 false) (e2 bN (kZ (aL (bq 4 (mV C J9 Kb)) (aa (af 3) (aa (af 4) (aa (af 5) (aa (e2 bN (kZ (aL (bq 3 (gm P w C CT J9 Kb m_least_left)) (aa (af 3) (aa (af 4) (aa (af 5) aj))))) (eC (.int 1))) aj)))))) (eC (.int 0))) (cC aj))) (fun δ=>(bE (fQ (fun δ=>bd (e2 (g7 true) (aL (bq 3 (bz P w C CT J9 Kb m_covers)) (aa (af 3) (aa (af 4) (aa (af 5) aj)))) (af 6) δ) bI) (aZ (eC (.bool false))) bP) (fun δ=>(bE (aW 7 (aL (bq 3 (cB P w C CT J9 Kb m_covers)) (aa (af 3) (aa (af 4) (aa (af 5) aj))))) (bE (aW 8 (aL (ax 2 (aF K)) (aa (af 0) (aa (eC (.int 21)) aj)))) (bE (dZ (qW (aa (eC (.int 4)) aj)) (ar 9) (bE (aW 10 (bf (aa (e2 aH (eC (.int 1)) (aL (ax 3 (aw)) (aa (af 8) (aa (e2 fq (eC (.int 2)) (af 9)) (aa (af 1) aj))))) (aa (aL (ax 3 (aw)) (aa (af 8) (aa (e2 aH (e2 fq (eC (.int 2)) (af 9)) (eC (.int 1))) (aa (af 2) aj)))) aj)))) (fQ (jo (fun δ=>bd (e2 fJ (iO (af 4) (af 10)) (eC (.int 2)) δ) bI) (fun δ=>bd (e2 (g7 true) (aL (bq 3 (bz P w C CT J9 Kb m_covers)) (aa (af 3) (aa (aL kY (aa (e2 aH (af 4) (cC (aa (af 10) aj))) aj)) (aa (af 5) aj)))) (e2 (yX false) (af 10) (af 7)) δ) bI)) (aZ (eC (.bool false))) bP))) (fun δ=>(bE (dZ (kG (af 7)) (ar 10) (fQ (DF (fun δ=>bd (e2 Cd (iO (af 4) (af 10)) (eC (.int 1)) δ) bI) (fun δ=>bd (e2 (Iy true) (aL (bq 3 (bz P w C CT J9 Kb m_covers)) (aa (af 3) (aa (aL kY (aa (e2 aH (af 4) (cC (aa (af 10) aj))) aj)) (aa (af 5) aj)))) (eC (.bool true)) δ) bI)) (aZ (eC (.bool false))) bP)) (bE (fQ (fun δ=>bd (e2 (g7 false) (aL dF (aa (af 4) aj)) (eC (.int 0)) δ) bI) (aZ (af 6)) bP) (bE (aW 11 (e2 jT (af 8) (aL dF (aa (af 4) aj)))) (aZ (F7 (wV (af 6)) (e2 (yX false) (e2 bN (af 4) (af 11)) (aL (bq 3 (cB P w C CT J9 Kb m_covers)) (aa (af 3) (aa (e2 aH (uy (af 4) (af 11)) (uX (af 4) (e2 aH (af 11) (eC (.int 1))))) (aa (af 5) aj)))))))))) (frz 7 δ))))) (frz 4 δ))) (frz 4 δ))) (frz 4 δ))))))))
noncomputable def rU (P:Program) (w:World) (K:Kd) (C:Addr) (CT:Addr) (J9:Addr) (Ka:Addr) (Kb:Addr) (m_least_left:List DV->M DV) (m_covers:List DV->M DV):List DV->M DV:=eG ["script", "most", "colours", "house", "hand", "jokers", "out", "told", "cell", "k", "tile", "at"] (EV P w K C CT J9 Ka Kb m_least_left m_covers)
theorem Fw {C CT J9 Ka Kb Kc:Addr} {m_least_left:List DV->M DV} {m_covers:List DV->M DV} (T:Tx K mg C) (R:Rx K mg J9 Ka Kb Kc) {f:Addr} {fd:FuncData} (Fu:Fun K "law" "law" oU f fd)  (h_House:Jr P w K mg base C Ka) (fZ:Has P w K mg base 2 "_law_house_by" 1 (dh K)) (gE:Has P w K mg base 2 "_law_hand_by" 5 (dA K)) (bo:Has P w K mg base 1 "_law_cell_at" 2 (aF K)) (wW:HasX P w K mg base 62 "best" 3 (gm P w C CT J9 Kb m_least_left)) (w9:HasX P w K mg base 6 "left" 4 (mV C J9 Kb)) (gA:HasX P w K mg base 61 "goes_out" 3 (bz P w C CT J9 Kb m_covers)) (j6:HasX P w K mg base 61 "helpers" 3 (cB P w C CT J9 Kb m_covers)) (ba:Has P w K mg base 1 "_law_mix" 3 (aw)):FnOk P w K mg base so 63 f fd ["script"] (Eb 1 (rU P w K C CT J9 Ka Kb m_least_left m_covers)):=nY (k:=62) Fu B3 rfl fun cdv A outer s H E hr=>by
 have hu:=dR hr
 have nd:=B3.nd
 refine aq ?_ ?_
 ·refine Be ?_ (qu rfl (dW (aG (i:=1) (by exact nd) rfl (by first|exact Or.inl rfl|exact Or.inr rfl)) (dW (aG (i:=2) (by exact nd) rfl (by first|exact Or.inl rfl|exact Or.inr rfl)) lL))) (qi (fR (aJ 1) (fR (aJ 2) oH)))
  exact (aU (fZ.mono 0x3) hr (ae (ah 0 (pv 0)) ai))
 ·refine aq ?_ ?_
  ·refine aP (i:=1) ?_ ?_
   ·exact nd
   ·exact (aV (wy rfl) rfl T.b_min sU (ae (ah 1 (pv 1)) (ae ak ai)))
  ·refine aq ?_ ?_
   ·refine aP (i:=2) ?_ ?_
    ·exact nd
    ·exact (aV (wy rfl) rfl T.b_min sU (ae (ah 2 (pv 2)) (ae ak ai)))
   ·refine aq ?_ ?_
    ·refine aP (i:=3) ?_ ?_
     ·exact nd
     ·exact (by refine DQ h_House 0x2 (hr.mono 0x3) i7 ?_; exact (ae (ah 1 (pv 1)) (ae (ah 2 (pv 2)) ai)))
    ·refine aq ?_ ?_
     ·refine aP (i:=4) ?_ ?_
      ·exact nd
      ·exact (aU (gE.mono 0x3) hr (by refine ae ?_ ?_; (exact (ah 0 (pv 0))); (exact (by refine ae ?_ ?_; (exact ak); (exact (by refine ae ?_ ?_; (exact (ah 1 (pv 1))); (exact (by refine ae ?_ ?_; (exact (ah 2 (pv 2))); (exact (by refine ae ?_ ?_; (exact ak); (exact ai)))))))))))
     ·refine aq ?_ ?_
      ·refine aP (i:=5) ?_ ?_
       ·exact nd
       ·exact (aM ja (aU (bo.mono 0x3) hr (ae (ah 0 (pv 0)) (ae ak ai))) (bD (cG (ae ak (ae ak ai))) (mU E8 rfl T.b_int GD (ae (iN (ie hu) (aV eQ rfl T.b_len eA (ae (ah 4 (pv 4)) ai)) ak) ai))))
      ·refine fP 4 ?_
       refine aq ?_ ?_
       ·refine aP (i:=6) ?_ ?_
        ·exact nd
        ·exact (iN (jP hu) (bD (oO (by refine cv (w9.mono 0x3) hr i7 ?_; exact (by refine ae ?_ ?_; (exact (ah 3 (pv 3))); (exact (by refine ae ?_ ?_; (exact (ah 4 (pv 4))); (exact (by refine ae ?_ ?_; (exact (ah 5 (pv 5))); (exact (by refine ae ?_ ?_; (exact (bD (oO (by refine cv (wW.mono 0x3) hr i7 ?_; exact (by refine ae ?_ ?_; (exact (ah 3 (pv 3))); (exact (ae (ah 4 (pv 4)) (ae (ah 5 (pv 5)) ai)))))) ak)); (exact ai)))))))))) ak) (cG ai))
       ·refine fP 4 ?_
        refine aq ?_ ?_
        ·refine de ?_ ?_ ?_
         ·exact (bK (ED hu) (by refine cv (gA.mono 0x3) hr i7 ?_; exact (by refine ae ?_ ?_; (exact (ah 3 (pv 3))); (exact (ae (ah 4 (pv 4)) (ae (ah 5 (pv 5)) ai))))) (ah 6 (pv 6)))
         ·refine ay ?_
          exact aS jY
         ·exact bV
        ·refine fP 4 ?_
         refine aq ?_ ?_
         ·refine aP (i:=7) ?_ ?_
          ·exact nd
          ·exact (by refine cv (j6.mono 0x3) hr i7 ?_; exact (by refine ae ?_ ?_; (exact (ah 3 (pv 3))); (exact (ae (ah 4 (pv 4)) (ae (ah 5 (pv 5)) ai)))))
         ·refine aq ?_ ?_
          ·refine aP (i:=8) ?_ ?_
           ·exact nd
           ·exact (aU (bo.mono 0x3) hr (ae (ah 0 (pv 0)) (ae ak ai)))
          ·refine aq ?_ ?_
           ·refine eV PassesOwn.never rfl ?_ (aG (i:=9) (by exact nd) rfl (by first|exact Or.inl rfl|exact Or.inr rfl)) (aJ 9) ?_
            ·exact (qj T.b_range (ae ak ai))
            ·refine aq ?_ ?_
             ·refine aP (i:=10) ?_ ?_
              ·exact nd
              ·exact (cX (ae (aM bA ak (aU (ba.mono 0x3) hr (by refine ae ?_ ?_; (exact (ah 8 (pv 8))); (exact (ae (aM gX ak (ah 9 (pv 9))) (ae (ah 1 (pv 1)) ai)))))) (ae (aU (ba.mono 0x3) hr (by refine ae ?_ ?_; (exact (ah 8 (pv 8))); (exact (ae (aM bA (aM gX ak (ah 9 (pv 9))) ak) (ae (ah 2 (pv 2)) ai))))) ai)))
             ·refine ay ?_
              refine de ?_ ?_ ?_
              ·exact (zh.pb (vV (bK (ie hu) (jD hu (ah 4 (pv 4)) (ah 10 (pv 10))) ak) (sF (bK (ED hu) (by refine cv (gA.mono 0x3) hr i7 ?_; exact (by refine ae ?_ ?_; (exact (ah 3 (pv 3))); (exact (ae (aV (iH hu) rfl T.b_sorted iy (ae (aM bA (ah 4 (pv 4)) (cG (ae (ah 10 (pv 10)) ai))) ai)) (ae (ah 5 (pv 5)) ai))))) (iN (zW hu) (ah 10 (pv 10)) (ah 7 (pv 7)))))))
              ·refine ay ?_
               exact aS jY
              ·exact bV
           ·refine fP 7 ?_
            refine aq ?_ ?_
            ·refine eV PassesOwn.never rfl ?_ (aG (i:=10) (by exact nd) rfl (by first|exact Or.inl rfl|exact Or.inr rfl)) (aJ 10) ?_
             ·exact (eK (ah 7 (pv 7)))
             ·refine ay ?_
              refine de ?_ ?_ ?_
              ·exact (zh.pb (EY (bK Am (jD hu (ah 4 (pv 4)) (ah 10 (pv 10))) ak) (AL (bK Al (by refine cv (gA.mono 0x3) hr i7 ?_; exact (by refine ae ?_ ?_; (exact (ah 3 (pv 3))); (exact (ae (aV (iH hu) rfl T.b_sorted iy (ae (aM bA (ah 4 (pv 4)) (cG (ae (ah 10 (pv 10)) ai))) ai)) (ae (ah 5 (pv 5)) ai))))) jY))))
              ·refine ay ?_
               exact aS jY
              ·exact bV
            ·refine aq ?_ ?_
             ·refine de ?_ ?_ ?_
              ·exact (bK (jP hu) (aV eQ rfl T.b_len eA (ae (ah 4 (pv 4)) ai)) ak)
              ·refine ay ?_
               exact aS (ah 6 (pv 6))
              ·exact bV
             ·refine aq ?_ ?_
              ·refine aP (i:=11) ?_ ?_
               ·exact nd
               ·exact (aM ja (ah 8 (pv 8)) (aV eQ rfl T.b_len eA (ae (ah 4 (pv 4)) ai)))
              ·refine ay ?_
               exact aS (HL (GY (ah 6 (pv 6))) (oW (iN (zW hu) (bD (ah 4 (pv 4)) (ah 11 (pv 11))) (by refine cv (j6.mono 0x3) hr i7 ?_; exact (by refine ae ?_ ?_; (exact (ah 3 (pv 3))); (exact (ae (aM bA (xT (ah 4 (pv 4)) (ah 11 (pv 11))) (xB (ah 4 (pv 4)) (aM bA (ah 11 (pv 11)) ak))) (ae (ah 5 (pv 5)) ai))))))))
end
end K8
namespace LW
open PySem PySem.Spec L2 L3
theorem nZ (ps:List Tl):∃qs:List Tl,zF (ps.map pr)=qs.map pr/\qs.Perm ps/\qs.Pairwise vw:=by
 obtain ⟨qs,hq,hl⟩:=xY ps
 have hperm:(qs.map pr).Perm (ps.map pr):=by rw [<-hq]; exact gQ _
 refine ⟨qs,hq,?_,wC (ya (by rw [<-hq]; exact oa _))⟩
 have:=hperm.map (fun d=>match d with|.tuple [.int a,.int b]=>((a,b):Tl)|_=>(0,0))
 rw [List.map_map,List.map_map] at this
 have e:((fun d=>match d with|.tuple [.int a,.int b]=>((a,b):Tl)|_=>(0,0))∘pr)=id:=rfl
 rw [e,List.map_id,List.map_id] at this
 exact this
theorem rG {x:DV} {fa:DS->M DV} {δ:DS} {ps qs:List Tl} (h:fa δ=rt x) (hx:mj x=some (ps.map pr)) (hl:ps.length<64) (hq:zF (ps.map pr)=qs.map pr):aL kY (aa fa aj) δ=rt (.new (qs.map pr)):=by
 rw [cj (bh h),yC hx hl,hq]
noncomputable def nR (h:List Tl):Prop:=∀p∈h,1<=p.1
theorem nR.sub {h h':List Tl} (p:nR h) (s:h'.Sublist h):nR h':=fun q hq=>p q (s.subset hq)
theorem mJ {l:By} (g:Good l) {t:Tl} {r:List Tl} {j:Int} {q:List Tl×Int} (h:q∈dg l (t::r) j):q.1.Sublist (t::r)/\q.1.length<=r.length:=by
 obtain ⟨w,hw,rfl,h0⟩:=lV h
 exact ⟨cg _ _,gy (g.mem t w hw)⟩
theorem jd {l:By} (g:Good l):∀(n:Nat) (h:List Tl) (j:Int),h.length<=n->nR h->0<=ck l h j
 |_,[],j,_,_=>by rw [Ez]; exact Int.le_refl _
 |0,t::r,_,h,_=>by simp at h
 |n+1,t::r,j,hn,hp=>by
  rw [List.length_cons] at hn
  rw [lC g]
  have hm:=lD (ns:=(t.1+ck l r j)::(dg l (t::r) j).map fun q=>ck l q.1 q.2) 0x4
  rcases List.mem_cons.mp hm with e|e
  ·rw [e]
   have:=jd g n r j 0x1 (hp.sub (List.sublist_cons_self t r))
   have:=hp t JZ
   lia
  ·obtain ⟨q,hq,e⟩:=List.mem_map.mp e
   rw [<-e]
   have k:=mJ g hq
   exact jd g n q.1 q.2 0x1 (hp.sub k.1)
theorem uP {l:By} (g:Good l) {t:Tl} {r:List Tl} {j:Int} (hp:nR (t::r)):ck l (t::r) j=0↔∃q∈dg l (t::r) j,ck l q.1 q.2=0:=by
 rw [lC g]
 constructor
 ·intro e
  have hm:=lD (ns:=(t.1+ck l r j)::(dg l (t::r) j).map fun q=>ck l q.1 q.2) 0x4
  rw [e] at hm
  rcases List.mem_cons.mp hm with e|e
  ·have:=jd g _ r j (J5 _) (hp.sub (List.sublist_cons_self t r))
   have:=hp t JZ
   lia
  ·obtain ⟨q,hq,e⟩:=List.mem_map.mp e
   exact ⟨q,hq,e⟩
 ·rintro ⟨q,hq,e⟩
  have h1:=oZ (ns:=(t.1+ck l r j)::(dg l (t::r) j).map fun q=>ck l q.1 q.2) (a:=0) (JY _ (List.mem_map.mpr ⟨q,hq,e⟩))
  have h2:=jd g _ (t::r) j (J5 _) hp
  rw [lC g] at h2
  lia
open Classical in
noncomputable def iU (P:Program) (w:World) (CT:Addr) (n:Nat) (xs:List DV):M DV:=match xs with
 |[x,.d (.list ts),.d (.int j)]=>bd (op (lx P w CT x)) fun q=>bd (op (bW ts)) fun h=>if Good q.1/\nR h/\h.length<=n then rt (.d (.bool (decide (ck q.1 h j=0)))) else none
 |_=>none
section
variable {P:Program} {w:World} {CT:Addr} {l:By} {f:PyData->Option Int} {U:List PyData}
theorem zO {n:Nat} {h:List Tl} {j:Int} (g:Good l) (hp:nR h) (hn:h.length<=n):iU P w CT n [.fz (.tb P w CT l f U),.d (.list (h.map pr)),.d (.int j)]=rt (.d (.bool (decide (ck l h j=0)))):=by
 show bd (op (lx P w CT _)) _=_
 rw [kd,aR,aE]
 show bd (op (bW (h.map pr))) _=_
 rw [show bW (h.map pr)=some h from eE h,aR,aE]
 exact if_pos ⟨g,hp,hn⟩
theorem EK {n:Nat} {xs:List DV} {x:DV} (e:iU P w CT n xs=some (.ok x)):∃l f U h j,xs=[.fz (.tb P w CT l f U),.d (.list (h.map pr)),.d (.int j)]/\Good l/\nR h/\h.length<=n/\x=.d (.bool (decide (ck l h j=0))):=by
 unfold iU at e
 split at e
 ·rename_i y ts j
  obtain ⟨⟨l,f,U⟩,e0,e1⟩:=bt e
  have hy:=gw e0
  subst hy
  obtain ⟨h,e2,e3⟩:=bt e1
  have ht:=ig e2
  subst ht
  split at e3
  ·rename_i c
   cases e3
   exact ⟨l,f,U,h,j,rfl,c.1,c.2.1,c.2.2,rfl⟩
  ·cases e3
 ·cases e
noncomputable def cδ (P:Program) (w:World) (CT:Addr) (l:By) (f:PyData->Option Int) (U:List PyData) (h:List Tl) (j:Int) (x4 x5:Option DV):DS:=[some (.fz (.tb P w CT l f U)),some (.d (.list (h.map pr))),some (.d (.int j)),x4,x5]
theorem yq {mc:List DV->M DV} {h:List Tl} {j:Int} (b:List Tl×Int->Bool):∀(qs:List (List Tl×Int)) (x4 x5:Option DV),(∀q∈qs,mc [.fz (.tb P w CT l f U),.d (.list (q.1.map pr)),.d (.int q.2)]=rt (.d (.bool (b q)))) ->
  ((∃q∈qs,b q=true)/\du (kn 2 (cm (ar 3) (cm (ar 4) kM))) (fQ (fun δ=>bd ((dv P w CT 3 mc (af 0) (aa (af 3) (aa (af 4) aj))) δ) bI) (aZ (eC (.bool true))) bP) (qs.map cZ) (cδ P w CT l f U h j x4 x5)=rt (.rt (.d (.bool true)))) \/
  ((∀q∈qs,b q=false)/\∃y4 y5,du (kn 2 (cm (ar 3) (cm (ar 4) kM))) (fQ (fun δ=>bd ((dv P w CT 3 mc (af 0) (aa (af 3) (aa (af 4) aj))) δ) bI) (aZ (eC (.bool true))) bP) (qs.map cZ) (cδ P w CT l f U h j x4 x5)=rt (.nx (cδ P w CT l f U h j y4 y5)))
 |[],x4,x5,_=>Or.inr ⟨fun q hq=>(nomatch hq),x4,x5,rfl⟩
 |q::qs,x4,x5,hq=>by
  have ih:=yq (h:=h) (j:=j) b qs (some (.d (.list (q.1.map pr)))) (some (.d (.int q.2))) (fun z hz=>hq z (JY _ hz))
  have em:dv P w CT 3 mc (af 0) (aa (af 3) (aa (af 4) aj)) (cδ P w CT l f U h j (some (.d (.list (q.1.map pr)))) (some (.d (.int q.2))))=rt (.d (.bool (b q))):=eP (l:=l) (f:=f) (U:=U) (ys:=[.d (.list (q.1.map pr)),.d (.int q.2)]) rfl (bH rfl rfl) rfl rfl (hq q JZ)
  have e0:kn 2 (cm (ar 3) (cm (ar 4) kM)) (cZ q) (cδ P w CT l f U h j x4 x5)=some (cδ P w CT l f U h j (some (.d (.list (q.1.map pr)))) (some (.d (.int q.2)))):=rfl
  rw [List.map_cons,du,e0,aR,aE,iB (a8 em)]
  cases hb:b q with
  |true=>
   refine Or.inl ⟨⟨q,JZ,hb⟩,?_⟩
   rfl
  |false=>
   rcases ih with ⟨⟨z,hz,e⟩,ih⟩|⟨hz,y4,y5,ih⟩
   ·exact Or.inl ⟨⟨z,JY _ hz,e⟩,ih⟩
   ·exact Or.inr ⟨fun z hz'=>(List.mem_cons.mp hz').elim (fun e=>e▸hb) (hz z),y4,y5,ih⟩
theorem uD {mw mc:List DV->M DV} {x:DV} (j:Int):gW P w CT mw mc [x,.d (.list []),.d (.int j)]=rt (.d (.bool true)):=by
 unfold gW
 refine dH (x:=.d (.bool true)) ?_
 unfold px
 rfl
theorem yP {mc:List DV->M DV} {t:Tl} {r:List Tl} {j:Int} (g:Good l) (hp:nR (t::r)) (h2:∀q∈dg l (t::r) j,mc [.fz (.tb P w CT l f U),.d (.list (q.1.map pr)),.d (.int q.2)]=rt (.d (.bool (decide (ck l q.1 q.2=0))))):gW P w CT (ju P w CT) mc [.fz (.tb P w CT l f U),.d (.list ((t::r).map pr)),.d (.int j)]=rt (.d (.bool (decide (ck l (t::r) j=0)))):=by
 unfold gW
 refine dH (x:=.d (.bool (decide (ck l (t::r) j=0)))) ?_
 unfold px
 have ei:kG (dv P w CT 3 (ju P w CT) (af 0) (aa (af 1) (aa (af 2) aj))) (cδ P w CT l f U (t::r) j none none)=rt ((dg l (t::r) j).map cZ):=sQ (eP (l:=l) (f:=f) (U:=U) (ys:=[.d (.list ((t::r).map pr)),.d (.int j)]) rfl (bH rfl rfl) rfl rfl (m_ways g t r j))
 refine gf (δ':=cδ P w CT l f U (t::r) j none none) rfl ?_
 rcases yq (P:=P) (w:=w) (CT:=CT) (l:=l) (f:=f) (U:=U) (mc:=mc) (h:=t::r) (j:=j) (fun q=>decide (ck l q.1 q.2=0)) (dg l (t::r) j) none none h2 with ⟨⟨q,hq,e⟩,ee⟩|⟨no,y4,y5,ee⟩
 ·have:ck l (t::r) j=0:=(uP g hp).mpr ⟨q,hq,of_decide_eq_true e⟩
  rw [decide_eq_true this]
  unfold bE
  rw [jw ei ee,aE]
  rfl
 ·have:¬ck l (t::r) j=0:=fun e=>by
   obtain ⟨q,hq,e⟩:=(uP g hp).mp e
   exact of_decide_eq_false (no q hq) e
  rw [decide_eq_false this]
  refine gf (jw ei ee) ?_
  rfl
theorem De {n:Nat} {xs:List DV} {x:DV} (e:iU P w CT (n+1) xs=some (.ok x)):gW P w CT (ju P w CT) (iU P w CT n) xs=some (.ok x):=by
 obtain ⟨l,f,U,h,j,rfl,g,hp,hl,rfl⟩:=EK e
 cases h with
 |nil=>exact uD j
 |cons t r=>
  rw [List.length_cons] at hl
  exact yP g hp fun q hq=>zO g (hp.sub (mJ g hq).1) (by have:=(mJ g hq).2; lia)
theorem DY {mw:List DV->M DV} {xs:List DV} {x:DV} (e:iU P w CT 0 xs=some (.ok x)):gW P w CT mw (fun _=>none) xs=some (.ok x):=by
 obtain ⟨l,f,U,h,j,rfl,g,hp,hl,rfl⟩:=EK e
 cases h with
 |nil=>exact uD j
 |cons t r=>simp at hl
end
noncomputable def jA (c n0:Nat):List Tl:=(List.range c).map fun (x:Nat)=>(1+(n0:Int),(x:Int))
noncomputable def km (m c:Nat):List Tl:=(List.range m).flatMap (jA c)
theorem u9 {m c:Nat} {t:Tl}:t∈km m c↔aX m c t=true:=by
 unfold km jA aX
 simp only [List.mem_flatMap,List.mem_map,List.mem_range,Bool.and_eq_true,decide_eq_true_eq]
 constructor
 ·rintro ⟨a,ha,x,hx,rfl⟩
  simp only
  lia
 ·rintro ⟨⟨h1,h2⟩,h3,h4⟩
  refine ⟨(t.1-1).toNat,0x1,t.2.toNat,0x1,?_⟩
  refine Prod.ext ?_ ?_ <;> simp only <;> lia
noncomputable def aB (C:Addr):DS->M Out:=(lr 1 (bb 1 [2] (qW (aa (ft C "colours" (af 0)) aj)) (ar 0) bY (bf (aa (af 1) (aa (af 0) aj)))))
theorem DG (C:Addr) (m c:Nat) (h4:c<=4) (n0:Nat) (base:List D) (hb:base.length<=1000):aB C [some (hs C m c),some (.own base),some (.d (.int (1+(n0:Int))))]=rt (.nx [some (hs C m c),some (.own (base++(jA c n0).map pr)),some (.d (.int (1+(n0:Int))))]):=by
 have c1:cO (ar 0) bY (bf (aa (af 1) (aa (af 0) aj))) (cT 1 [2] [some (hs C m c),some (.own base),some (.d (.int (1+(n0:Int))))]) (df 0 c)=some ((jA c n0).map pr):=by
  unfold jA df
  rw [List.map_map]
  refine dq fun k hk=>?_
  unfold bf
  rw [bH (x:=.d (.int (1+(n0:Int)))) (y:=.d (.int (0+(k:Int)))) rfl rfl]
  show rt (DV.d (PyData.tuple [.int (1+(n0:Int)),.int (0+(k:Int))]))=_
  rw [Int.zero_add]
  rfl
 have e1:bb 1 [2] (qW (aa (ft C "colours" (af 0)) aj)) (ar 0) bY (bf (aa (af 1) (aa (af 0) aj))) [some (hs C m c),some (.own base),some (.d (.int (1+(n0:Int))))]=rt (.new ((jA c n0).map pr)):=
  bp (jK (bh (gn C m c)) 0x1 0x1) (by rw [show (c:Int).toNat=c by lia]; unfold df; rw [List.length_map,List.length_range]; lia) (by rw [show (c:Int).toNat=c by lia]; exact c1)
 unfold aB
 rw [tZ (xs:=base) rfl e1 (by unfold jA; simp only [List.length_map,List.length_range]; lia)]
 rfl
theorem ur (C:Addr) (m c:Nat) (hm:m<=13) (h4:c<=4):fV C [hs C m c]=rt (.new ((km m c).map pr)):=by
 unfold fV nE eG
 have hd:nc ["house", "found", "number"] [hs C m c]=[some (hs C m c),none,none]:=rfl
 rw [hd]
 have s2:aW 1 (cC aj) [some (hs C m c),none,none]=rt (.nx [some (hs C m c),some (.own []),none]):=rfl
 rw [cF s2]
 obtain ⟨δ',e,y3,hδ⟩:=mS (f:=fun (k:Nat)=>PyData.int (1+(k:Int))) (i:=2) (N:=m) (B:=aB C) (all:=List.range m)
  (fun pre δ=>∃y3,δ=[some (hs C m c),some (.own (pre.flatMap fun a=>(jA c a).map pr)),y3])
  (fun pre a δ ha hp ⟨y3,hδ⟩=>by
   subst hδ
   have hl:=fg (g:=fun a=>(jA c a).map pr) (k:=5) (fun a=>by unfold jA; simp only [List.length_map,List.length_range]; lia) pre
   refine ⟨_,DG C m c h4 a (pre.flatMap fun a=>(jA c a).map pr) 0x1,some (.d (.int (1+(a:Int)))),?_⟩
   rw [List.flatMap_append,show [a].flatMap (fun a=>(jA c a).map pr)=(jA c a).map pr by simp])
  (List.range m) [] [some (hs C m c),some (.own []),none] (fun _ h=>h) 0x4 ⟨none,0x4⟩
 have fl:e2 aH (ft C "most" (af 0)) (eC (.int 1)) [some (hs C m c),some (.own []),none]=rt (.d (.int ((m:Int)+1))):=(au (iF C m c) rfl).trans (b9 _ _)
 have ea:(km m c).map pr=(List.range m).flatMap fun a=>(jA c a).map pr:=by unfold km; rw [List.map_flatMap]
 have s3:dZ (qI (aa (eC (.int 1)) (aa (e2 aH (ft C "most" (af 0)) (eC (.int 1))) aj))) (ar 2) (aB C) [some (hs C m c),some (.own []),none]=rt (.nx [some (hs C m c),some (.own ((km m c).map pr)),y3]):=by
  unfold dZ
  rw [jI (bH (x:=.d (.int 1)) rfl fl) 0x1 0x1 0x1 0x1,aE,show ((m:Int)+1-1).toNat=m by lia]
  unfold df
  rw [e,hδ,ea]
  rfl
 rw [show (lr 1 (bb 1 [2] (qW (aa (ft C "colours" (af 0)) aj)) (ar 0) bY (bf (aa (af 1) (aa (af 0) aj)))))=aB C from rfl]
 rw [cF s3,bC (x:=.own ((km m c).map pr)) rfl]
 rfl
noncomputable def vK (ps:List Tl):List Tl:=(nZ ps).choose
theorem Ai (ps:List Tl):zF (ps.map pr)=(vK ps).map pr:=(nZ ps).choose_spec.1
theorem iu (ps:List Tl):(vK ps).Perm ps:=(nZ ps).choose_spec.2.1
theorem yw (ps:List Tl):(vK ps).Pairwise vw:=(nZ ps).choose_spec.2.2
theorem Hand.one {m c:Nat} {h:List Tl} {j:Int} (H:Hand m c h j):nR h:=fun p hp=>by
 have:=H.tile p hp
 unfold aX at this
 simp only [Bool.and_eq_true,decide_eq_true_eq] at this
 exact this.1.1
noncomputable def GO (m c:Nat) (h:List Tl) (j:Int):Bool:=decide (ck (g5 m c h j) h j=0)
section
variable {P:Program} {w:World} {C CT Eh El:Addr}
theorem B1 {m c:Nat} (hm:m<=13) (h4:c<=4) {f:PyData->Option Int} {U:List PyData} (h:List Tl) (j:Int) {x:DV} (hx:vx x=some (.list ((ny m c h j).map kh))):EB P w CT f U [x]=rt (.fz (.tb P w CT (g5 m c h j) f U)):=by
 unfold EB
 simp only [hx]
 rw [mR,aR,aE,if_pos (by rw [List.length_map]; exact wZ hm h4 h j)]
 rfl
theorem nt {m c:Nat} (hm:m<=13) (h1:1<=c) (h4:c<=4) {h:List Tl} {j:Int} (H:Hand m c h j):bz P w C CT Eh El (iU P w CT 12) [hs C m c,.d (.list (h.map pr)),.d (.int j)]=rt (.d (.bool (GO m c h j))):=by
 have hl:h.length<=1000:=by have:=H.len; lia
 unfold bz kU
 generalize (rg [hs C m c,.d (.list (h.map pr)),.d (.int j)]).1=f
 generalize (rg [hs C m c,.d (.list (h.map pr)),.d (.int j)]).2=U
 refine dH (x:=.d (.bool (GO m c h j))) ?_
 unfold iM
 refine gf (δ':=[some (hs C m c),some (.d (.list (h.map pr))),some (.d (.int j))]) (oq (x:=.d .none) (bT (n:=3) (dG (x:=hs C m c) (y:=.d (.list (h.map pr))) (z:=.d (.int j)) rfl rfl rfl) rfl rfl (lN C Eh hl H.ok))) ?_
 refine bC (eP (l:=g5 m c h j) (f:=f) (U:=U) (ys:=[.d (.list (h.map pr)),.d (.int j)]) ?_ (bH rfl rfl) rfl rfl (zO (sV hm h1 h4 h j) H.one H.len))
 exact (cj (bh (x:=.new ((ny m c h j).map kh)) (bT (n:=3) (dG (x:=hs C m c) (y:=.d (.list (h.map pr))) (z:=.d (.int j)) rfl rfl rfl) rfl rfl (lp C El hm h1 h4 h j)))).trans (B1 hm h4 h j rfl)
noncomputable def HE (m c:Nat) (h:List Tl) (j:Int):List Tl:=if h.length=12 then [] else ((km m c).filter fun t=>decide (iK h t<2)).filter fun t=>decide (ck (g5 m c h (j+1)) (vK (h++[t])) j=0)
theorem uh {m c:Nat} (hm:m<=13) (h4:c<=4):(km m c).length<=1000:=by
 have hl:=fg (g:=fun a=>(jA c a).map pr) (k:=4) (fun a=>by unfold jA; simp only [List.length_map,List.length_range]; lia) (List.range m)
 have:((km m c).map pr).length=((List.range m).flatMap fun a=>(jA c a).map pr).length:=by unfold km; rw [List.map_flatMap]
 rw [List.length_map] at this
 rw [List.length_range] at hl
 lia
theorem qk {m c:Nat} (hm:m<=13) (h1:1<=c) (h4:c<=4) {h:List Tl} {j:Int} (H:Hand m c h j):cB P w C CT Eh El (iU P w CT 12) [hs C m c,.d (.list (h.map pr)),.d (.int j)]=rt (.new ((HE m c h j).map pr)):=by
 have hl:h.length<=1000:=by have:=H.len; lia
 unfold cB mM
 generalize (rg [hs C m c,.d (.list (h.map pr)),.d (.int j)]).1=f
 generalize (rg [hs C m c,.d (.list (h.map pr)),.d (.int j)]).2=U
 refine dH (x:=.new ((HE m c h j).map pr)) ?_
 unfold j1
 refine gf (δ':=[some (hs C m c),some (.d (.list (h.map pr))),some (.d (.int j)),none,none]) (oq (x:=.d .none) (bT (n:=3) (dG (x:=hs C m c) (y:=.d (.list (h.map pr))) (z:=.d (.int j)) rfl rfl rfl) rfl rfl (lN C Eh hl H.ok))) ?_
 have ec:(fun δ=>bd (e2 (g7 false) (aL dF (aa (af 1) aj)) (eC (.int 12)) δ) bI) [some (hs C m c),some (.d (.list (h.map pr))),some (.d (.int j)),none,none]=rt (decide (h.length=12)):=by
  refine a8 (b:=decide (h.length=12)) ((au (x:=.d (.int (h.length:Int))) (y:=.d (.int 12)) ((cj (bh (x:=.d (.list (h.map pr))) rfl)).trans ?_) rfl).trans ?_)
  ·exact iq h
  ·rw [i8]
   have:((h.length:Int)==12)=decide (h.length=12):=by
    rw [Bool.eq_iff_iff,beq_iff_eq,decide_eq_true_eq]
    lia
   rw [this]
 by_cases h12:h.length=12
 ·unfold bE
  rw [iB ec,decide_eq_true h12]
  unfold HE
  rw [if_pos h12]
  rfl
 ·refine gf (δ':=[some (hs C m c),some (.d (.list (h.map pr))),some (.d (.int j)),none,none]) (by rw [iB ec,decide_eq_false h12]; rfl) ?_
  have hlen:h.length<=11:=by have:=H.len; lia
  refine gf (δ':=[some (hs C m c),some (.d (.list (h.map pr))),some (.d (.int j)),some (.fz (.tb P w CT (g5 m c h (j+1)) f U)),none]) (fC (x:=.fz (.tb P w CT (g5 m c h (j+1)) f U)) ?_ rfl rfl) ?_
  ·exact (cj (bh (x:=.new ((ny m c h (j+1)).map kh)) (bT (n:=3) (dG (x:=hs C m c) (y:=.d (.list (h.map pr))) (z:=.d (.int (j+1))) rfl rfl ((au (x:=.d (.int j)) (y:=.d (.int 1)) rfl rfl).trans (b9 _ _))) rfl rfl (lp C El hm h1 h4 h (j+1))))).trans (B1 hm h4 h (j+1) rfl)
  refine gf (δ':=[some (hs C m c),some (.d (.list (h.map pr))),some (.d (.int j)),some (.fz (.tb P w CT (g5 m c h (j+1)) f U)),some (.own (((km m c).filter fun t=>decide (iK h t<2)).map pr))]) (fC (x:=.new (((km m c).filter fun t=>decide (iK h t<2)).map pr)) ?_ rfl rfl) ?_
  ·refine bp (xs:=(km m c).map pr) (sQ (bB (n:=1) (bh (x:=hs C m c) rfl) rfl rfl (ur C m c hm h4))) (by rw [List.length_map]; exact Nat.le_trans (uh hm h4) 0x3) ?_
   refine fG (f:=pr) (b:=fun t=>decide (iK h t<2)) (g:=pr) fun t _=>⟨a8 ((au (x:=.d (.int (iK h t))) (y:=.d (.int 2)) ((wI (x:=.d (.list (h.map pr))) (y:=.d (pr t)) rfl rfl rfl).trans (oF h t)) rfl).trans ?_),rfl⟩
   exact dw _ _
  show aZ _ [some (hs C m c),some (.d (.list (h.map pr))),some (.d (.int j)),some (.fz (.tb P w CT (g5 m c h (j+1)) f U)),some (.d (.list (((km m c).filter fun t=>decide (iK h t<2)).map pr)))]=_
  refine bC (bp (xs:=((km m c).filter fun t=>decide (iK h t<2)).map pr) (gd rfl) (by rw [List.length_map]; exact Nat.le_trans (List.length_filter_le _ _) (Nat.le_trans (uh hm h4) 0x3)) ?_)
  unfold HE
  rw [if_neg h12]
  refine fG (f:=pr) (b:=fun t=>decide (ck (g5 m c h (j+1)) (vK (h++[t])) j=0)) (g:=pr) fun t ht=>⟨a8 ?_,rfl⟩
  have tk:=u9.mp (List.mem_filter.mp ht).1
  have hp:nR (vK (h++[t])):=fun p hp=>by
   rcases List.mem_append.mp ((iu _).mem_iff.mp hp) with z|z
   ·exact H.one p z
   ·rw [List.mem_singleton.mp z]
    unfold aX at tk
    simp only [Bool.and_eq_true,decide_eq_true_eq] at tk
    exact tk.1.1
  refine eP (l:=g5 m c h (j+1)) (f:=f) (U:=U) (ys:=[.new ((vK (h++[t])).map pr),.d (.int j)]) rfl (bH (rG (x:=.new ((h++[t]).map pr)) (ps:=h++[t]) ((au (x:=.d (.list (h.map pr))) (y:=.new [pr t]) rfl rfl).trans (by rw [List.map_append]; exact oz rfl rfl rfl (by rw [List.length_map]; show h.length+1<=1000000; lia))) rfl (by rw [List.length_append]; show h.length+1<64; lia) (Ai _)) rfl) rfl rfl (zO (sV hm h1 h4 h (j+1)) hp (by rw [(iu _).length_eq,List.length_append]; show h.length+1<=12; lia))
end
structure Tab (l:By) (AM:List (List Tl)):Prop where
 asc:∀w∈AM,w.Pairwise G0
 all:∀t w,w∈AM->t∈w.take 3->w∈cU l t
 only:∀t w,w∈cU l t->w∈AM/\t∈w
 three:∀w∈AM,3<=w.length
structure Stt (r:List Tl) (j:Int):Prop where
 ord:r.Pairwise vw
 pos:∀p∈r,0<=p.1
 j0:0<=j
 j2:j<=2
theorem Stt.lay {r:List Tl} {j:Int} (s:Stt r j) {w:List Tl} (h:0<=jl r j w):Stt (av r w) (jl r j w):=
 ⟨s.ord.sublist (cg _ _),fun p hp=>s.pos p ((cg _ _).subset hp),h,Int.le_trans (nA _ _ _) s.j2⟩
section
variable {l:By} {AM:List (List Tl)} {goal:Int}
theorem Tab.opt (T:Tab l AM) {r:List Tl} {j:Int} (s:Stt r j) {Ws:List (List Tl)} (p:Play AM r j Ws):ck l r j<=g6 (av r Ws.flatten):=wQ T.asc T.all r.length r j Ws (J5 _) s.ord s.pos s.j2 p
theorem Tab.snd (T:Tab l AM) {r:List Tl} {j:Int} (s:Stt r j):∃Ws,Play AM r j Ws/\g6 (av r Ws.flatten)<=ck l r j:=vX T.only r.length r j (J5 _) s.pos s.j0
theorem Play.cons {r:List Tl} {j:Int} {w:List Tl} {Ws:List (List Tl)} (hw:w∈AM) (p:Play AM (av r w) (jl r j w) Ws):Play AM r j (w::Ws)/\av r (w::Ws).flatten=av (av r w) Ws.flatten:=by
 refine ⟨⟨fun x hx=>?_,?_⟩,?_⟩
 ·rcases List.mem_cons.mp hx with e|e
  ·exact e▸hw
  ·exact p.mem x e
 ·rw [List.flatten_cons,fB]; exact p.jok
 ·rw [List.flatten_cons,cV]
noncomputable def Av (AM:List (List Tl)) (goal:Int) (xs:List (List Tl)) (r:List Tl) (j:Int):Prop:=∀Ws,Play AM r j Ws->g6 (av r Ws.flatten)<=goal->∀w∈Ws,w∉xs
theorem Av.take {xs:List (List Tl)} {r:List Tl} {j:Int} (a:Av AM goal xs r j) {w:List Tl} (hw:w∈AM):Av AM goal xs (av r w) (jl r j w):=fun Ws p hs x hx=>by
 obtain ⟨p',e⟩:=Play.cons hw p
 exact a _ p' (by rw [e]; exact hs) x (JY _ hx)
theorem Av.stop (T:Tab l AM) {xs:List (List Tl)} {r:List Tl} {j:Int} (s:Stt r j) (hg:ck l r j=goal) (a:Av AM goal xs r j) {w:List Tl} (hw:w∈AM) (no:¬(0<=jl r j w/\ck l (av r w) (jl r j w)=goal)):Av AM goal (w::xs) r j:=fun Ws p hs x hx hm=>by
 rcases List.mem_cons.mp hm with e|e
 ·subst e
  obtain ⟨A,B,rfl⟩:=List.append_of_mem hx
  have pw:(A++x::B).flatten.Perm (x++(A++B).flatten):=by
   rw [List.flatten_append,List.flatten_cons,List.flatten_append,<-List.append_assoc,<-List.append_assoc]
   exact (List.perm_append_comm).append_right _
  have hj:=p.jok
  rw [tW pw] at hj
  have h0:=Int.le_trans hj (tK _ _ _ _)
  rw [j7 pw,cV] at hs
  rw [fB] at hj
  have p':Play AM (av r x) (jl r j x) (A++B):=⟨fun y hy=>p.mem y (by
   rcases List.mem_append.mp hy with z|z
   ·exact J3 _ z
   ·exact J2 _ (JY _ z)),hj⟩
  have s':=s.lay h0
  have h1:=T.opt s' p'
  obtain ⟨Vs,q,h2⟩:=T.snd s'
  obtain ⟨q',e⟩:=Play.cons hw q
  have h3:=T.opt s q'
  rw [e] at h3
  exact no ⟨h0,0x1⟩
 ·exact a Ws p hs x hx e
theorem yx (T:Tab l AM) {w:List Tl} (hw:w∈AM) {xs:List (List Tl)}:∀(n:Nat) (r:List Tl) (j:Int),r.length<n->Stt r j->ck l r j=goal->Av AM goal xs r j ->
  Stt (fy l goal w n r j).1 (fy l goal w n r j).2.1/\ck l (fy l goal w n r j).1 (fy l goal w n r j).2.1=goal/\Av AM goal (w::xs) (fy l goal w n r j).1 (fy l goal w n r j).2.1 /\
  (fy l goal w n r j).1=av r (List.replicate (fy l goal w n r j).2.2 w).flatten/\(fy l goal w n r j).2.1=jl r j (List.replicate (fy l goal w n r j).2.2 w).flatten/\(fy l goal w n r j).1.length<=r.length
 |0,r,j,h,_,_,_=>absurd h 0x1
 |n+1,r,j,h,s,hg,a=>by
  by_cases hc:0<=jl r j w/\ck l (av r w) (jl r j w)=goal
  ·have hl:=qa hc.1 s.j2 (T.three w hw)
   have ih:=yx T hw (xs:=xs) n (av r w) (jl r j w) 0x1 (s.lay hc.1) hc.2 (a.take hw)
   have e:fy l goal w (n+1) r j=((fy l goal w n (av r w) (jl r j w)).1,(fy l goal w n (av r w) (jl r j w)).2.1,(fy l goal w n (av r w) (jl r j w)).2.2+1):=if_pos hc
   rw [e]
   obtain ⟨i1,i2,i3,i4,i5,i6⟩:=ih
   refine ⟨i1,i2,i3,?_,?_,Nat.le_trans i6 0x1⟩
   ·show _=av r (List.replicate (_+1) w).flatten
    rw [List.replicate_succ,List.flatten_cons,cV]; exact i4
   ·show _=jl r j (List.replicate (_+1) w).flatten
    rw [List.replicate_succ,List.flatten_cons,fB]; exact i5
  ·have e:fy l goal w (n+1) r j=(r,j,0):=if_neg hc
   rw [e]
   refine ⟨s,hg,a.stop T s hg hw hc,rfl,?_,J5 _⟩
   show j=jl r j []
   unfold jl
   show j=j-(((0:Nat):Int)-((r.length:Int)-(r.length:Int)))
   lia
theorem xh (T:Tab l AM):∀(ys:List Ml) (xs:List (List Tl)) (r:List Tl) (j:Int),(∀y∈ys,tl y∈AM)->r.length<100->Stt r j->ck l r j=goal->Av AM goal xs r j ->
  ∃r' j',Stt r' j'/\ck l r' j'=goal/\Av AM goal ((ys.map tl).reverse++xs) r' j'/\r'=av r ((uf l goal ys r j).map tl).flatten/\j'=jl r j ((uf l goal ys r j).map tl).flatten
 |[],xs,r,j,_,_,s,hg,a=>⟨r,j,s,hg,a,rfl,by
   show j=jl r j []
   unfold jl
   show j=j-(((0:Nat):Int)-((r.length:Int)-(r.length:Int)))
   lia⟩
 |y::ys,xs,r,j,hy,hl,s,hg,a=>by
  obtain ⟨i1,i2,i3,i4,i5,i6⟩:=yx T (hy y JZ) (xs:=xs) 100 r j hl s hg a
  obtain ⟨r',j',k1,k2,k3,k4,k5⟩:=xh T ys (tl y::xs) _ _ (fun z hz=>hy z (JY _ hz)) (Nat.lt_of_le_of_lt i6 hl) i1 i2 i3
  refine ⟨r',j',k1,k2,?_,?_,?_⟩
  ·rw [List.map_cons,List.reverse_cons,List.append_assoc]; exact k3
  ·rw [k4]
   conv=>lhs; rw [i4]
   show _=av r ((List.replicate _ y++uf l goal ys _ _).map tl).flatten
   rw [List.map_append,List.map_replicate,List.flatten_append,cV]
   rw [<-i4]
  ·rw [k5]
   show _=jl r j ((List.replicate _ y++uf l goal ys _ _).map tl).flatten
   rw [List.map_append,List.map_replicate,List.flatten_append,fB]
   rw [<-i4,<-i5]
theorem Ax (T:Tab l AM) {ys:List Ml} (hA:AM=ys.map tl) {r:List Tl} {j:Int} (hl:r.length<100) (s:Stt r j):g6 (av r ((uf l (ck l r j) ys r j).map tl).flatten)=ck l r j/\0<=jl r j ((uf l (ck l r j) ys r j).map tl).flatten:=by
 obtain ⟨r',j',k1,k2,k3,k4,k5⟩:=xh (goal:=ck l r j) T ys [] r j (fun y hy=>by rw [hA]; exact List.mem_map.mpr ⟨y,hy,rfl⟩) hl s rfl (fun _ _ _ _ _ h=>nomatch h)
 rw [<-k4,<-k5]
 refine ⟨?_,k1.j0⟩
 obtain ⟨Ws,p,hs⟩:=T.snd k1
 have hn:Ws=[]:=by
  cases Ws with
  |nil=>rfl
  |cons w Ws=>
   refine absurd ?_ (k3 _ p (by rw [k2] at hs; exact hs) w JZ)
   rw [List.append_nil,List.mem_reverse,<-hA]
   exact p.mem w JZ
 subst hn
 have h2:=T.opt k1 p
 rw [k2] at hs h2
 exact Int.le_antisymm hs h2
end
theorem vP {m c:Nat} (hm:m<=13) (h1:1<=c) (h4:c<=4) (h:List Tl) (j:Int):Tab (g5 m c h j) ((ny m c h j).map tl):=by
 have sub:∀w∈(ny m c h j).map tl,w∈GZ m c:=fun w hw=>by
  obtain ⟨y,hy,rfl⟩:=List.mem_map.mp hw
  exact List.mem_map.mpr ⟨y,(jJ hy).1,rfl⟩
 exact ⟨fun w hw=>GI h1 h4 (sub w hw),fun t w hw ht=>(jQ w t _).mpr ⟨hw,ht⟩,fun t w hw=>⟨((jQ w t _).mp hw).1,(List.take_sublist 3 w).subset ((jQ w t _).mp hw).2⟩,fun w hw=>(pq hm h1 h4 (sub w hw)).1⟩
theorem Hand.stt {m c:Nat} {h:List Tl} {j:Int} (H:Hand m c h j):Stt h j:=⟨H.ord,H.pos,H.j0,H.j2⟩
theorem uJ {m c:Nat} (hm:m<=13) (h1:1<=c) (h4:c<=4) {h:List Tl} {j:Int} (H:Hand m c h j):g6 (av h ((BL m c h j).map tl).flatten)=ck (g5 m c h j) h j/\0<=jl h j ((BL m c h j).map tl).flatten:=
 Ax (vP hm h1 h4 h j) rfl (by have:=H.len; lia) H.stt
theorem yV {r:List Tl} (hp:nR r):g6 r=0↔r=[]:=by
 constructor
 ·intro e
  cases r with
  |nil=>rfl
  |cons t r=>
   have h1:=hp t JZ
   have h2:=jN (h:=r) fun p hp'=>by have:=hp p (JY _ hp'); lia
   have:g6 (t::r)=t.1+g6 r:=by unfold g6; rw [List.map_cons,List.sum_cons]
   lia
 ·rintro rfl
  rfl
theorem Gz {m c:Nat} (hm:m<=13) (h1:1<=c) (h4:c<=4) {h:List Tl} {j:Int} (H:Hand m c h j):(av h ((BL m c h j).map tl).flatten=[])↔GO m c h j=true:=by
 rw [<-yV (H.one.sub (cg _ _)),(uJ hm h1 h4 H).1]
 unfold GO
 rw [decide_eq_true_eq]
theorem CG {l l':By} {A A':List (List Tl)} (T:Tab l A) (T':Tab l' A') {r:List Tl} {j:Int} (s:Stt r j) (f:∀Ws,Play A r j Ws->Play A' r j Ws) (g:∀Ws,Play A' r j Ws->Play A r j Ws):ck l r j=ck l' r j:=by
 obtain ⟨Ws,p,h1⟩:=T.snd s
 obtain ⟨Vs,q,h2⟩:=T'.snd s
 have h3:=T'.opt s (f _ p)
 have h4:=T.opt s (g _ q)
 lia
theorem uq (t:Tl):∀(w A B:List Tl),(A.Perm (t::B)\/A.Perm B)->(av B w).length<=(av A w).length
 |[],A,B,h=>by
  show B.length<=A.length
  rcases h with h|h
  ·rw [h.length_eq,List.length_cons]; lia
  ·rw [h.length_eq]; exact J5 _
 |x::w,A,B,h=>by
  show (av (B.erase x) w).length<=(av (A.erase x) w).length
  refine uq t w _ _ ?_
  rcases h with h|h
  ·have e:=h.erase x
   by_cases hx:x=t
   ·subst hx
    rw [List.erase_cons_head] at e
    by_cases hb:x∈B
    ·exact .inl (e.trans (List.perm_cons_erase hb))
    ·rw [List.erase_of_not_mem hb]; exact .inr e
   ·rw [List.erase_cons_tail (by simpa using fun z=>hx z.symm)] at e
    exact .inl e
  ·exact .inr (h.erase x)
theorem F1 (t:Tl) {h h':List Tl} (p:h'.Perm (t::h)) (j:Int) (w:List Tl):jl h' j w<=jl h (j+1) w:=by
 have:=uq t w h' h (.inl p)
 have:=p.length_eq
 rw [List.length_cons] at this
 unfold jl
 lia
theorem BR {m c:Nat} (t:Tl) {h h':List Tl} (p:h'.Perm (t::h)) {j:Int} {Ws:List (List Tl)} (q:Play ((ny m c h' j).map tl) h' j Ws):Play ((ny m c h (j+1)).map tl) h' j Ws:=by
 refine ⟨fun w hw=>?_,q.jok⟩
 obtain ⟨y,hy,rfl⟩:=List.mem_map.mp (q.mem w hw)
 refine List.mem_map.mpr ⟨y,List.mem_filter.mpr ⟨(jJ hy).1,?_⟩,rfl⟩
 have:=Int.le_trans (jJ hy).2 (F1 t p j (tl y))
 simpa using this
theorem B2 {m c:Nat} (hm:m<=13) (h1:1<=c) (h4:c<=4) (t:Tl) {h h':List Tl} {j:Int} (H:Hand m c h' j) (p:h'.Perm (t::h)):decide (ck (g5 m c h (j+1)) h' j=0)=GO m c h' j:=by
 unfold GO
 rw [CG (vP hm h1 h4 h' j) (vP hm h1 h4 h (j+1)) H.stt (fun Ws q=>BR t p q) fun Ws q=>Ee ⟨fun w hw=>?_,q.jok⟩]
 obtain ⟨y,hy,rfl⟩:=List.mem_map.mp (q.mem w hw)
 exact List.mem_map.mpr ⟨y,(jJ hy).1,rfl⟩
theorem Gu {a b:List Tl} (p:a.Perm b) (h:b.Pairwise vw):vK a=b:=by
 have q:=(iu a).trans p
 have s:=yw a
 revert q s
 generalize vK a=x
 intro q s
 exact List.Perm.eq_of_pairwise (fun x y _ _ h1 h2=>by
  unfold vw at h1 h2
  refine Prod.ext ?_ ?_ <;> lia) s h q
noncomputable def Cm (xs:List Ml):Prop:=xs.Pairwise fun a b=>ll (nF (md b)) (nF (md a))=false
noncomputable instance (xs:List Ml):Decidable (Cm xs):=inferInstanceAs (Decidable (xs.Pairwise _))
theorem Cu:∀m∈[3,4,5,6],∀c∈[1,2,3],Cm (vt m c):=by decide +kernel
theorem Cm.fl {l:By} {goal:Int}:∀(ys:List Ml) (r:List Tl) (j:Int),Cm ys->Cm (uf l goal ys r j)/\∀y∈uf l goal ys r j,y∈ys
 |[],_,_,_=>⟨List.Pairwise.nil,fun _ h=>nomatch h⟩
 |y::ys,r,j,a=>by
  obtain ⟨a1,a2⟩:=List.pairwise_cons.mp a
  have ih:=Cm.fl (l:=l) (goal:=goal) ys (fy l goal (tl y) 100 r j).1 (fy l goal (tl y) 100 r j).2.1 a2
  refine ⟨List.pairwise_append.mpr ⟨List.pairwise_replicate.mpr (.inr (fH _)),ih.1,fun x hx z hz=>?_⟩,fun z hz=>?_⟩
  ·rw [(List.mem_replicate.mp hx).2]
   exact a1 z (ih.2 z hz)
  ·rcases List.mem_append.mp hz with h|h
   ·rw [(List.mem_replicate.mp h).2]; exact JZ
   ·exact JY _ (ih.2 z h)
theorem Cm.ord {xs:List Ml} (a:Cm xs):yQ (xs.map md)=true:=by
 unfold yQ
 rw [List.all_eq_true]
 intro k hk
 have hk:=List.mem_range.mp hk
 rw [List.length_map] at hk
 have h1:k<xs.length:=by lia
 have h2:k+1<xs.length:=by lia
 have:=List.pairwise_iff_getElem.mp a k (k+1) h1 h2 0x1
 have e1:(xs.map md).getD (k+1) .none=md xs[k+1]:=by simp [List.getD,h2]
 have e2:(xs.map md).getD k .none=md xs[k]:=by simp [List.getD,h1]
 rw [e1,e2,this]
 rfl
theorem BB {l:By} {goal:Int}:∀(ys:List Ml) (r:List Tl) (j:Int),(∀y∈ys,3<=(tl y).length)->0<=j->j<=2->(uf l goal ys r j).length<=r.length
 |[],_,_,_,_,_=>Nat.zero_le _
 |y::ys,r,j,h,h0,h2=>by
  obtain ⟨w1,w2,w3,w4⟩:=oG (l:=l) (goal:=goal) (y:=tl y) (h y JZ) 100 r j h0 h2
  have ih:=BB (l:=l) (goal:=goal) ys (fy l goal (tl y) 100 r j).1 (fy l goal (tl y) 100 r j).2.1 (fun z hz=>h z (JY _ hz)) w2 0x1
  show (List.replicate _ y++uf l goal ys _ _).length<=_
  rw [List.length_append,List.length_replicate]
  lia
structure Lay (m c:Nat) (L:List Ml):Prop where
 ok:∀y∈L,MOk m c y/\zr m c y=true
 len:L.length<=12
 ord:yQ (L.map md)=true
theorem FJ {m c:Nat} (hm:m∈[3,4,5,6]) (hc:c∈[1,2,3]) {h:List Tl} {j:Int} (H:Hand m c h j):Lay m c (BL m c h j):=by
 have m13:m<=13:=by simp at hm; lia
 have c4:1<=c/\c<=4:=by simp at hc; lia
 have a:Cm (ny m c h j):=(Cu m hm c hc).sublist List.filter_sublist
 obtain ⟨a1,a2⟩:=Cm.fl (l:=g5 m c h j) (goal:=ck (g5 m c h j) h j) (ny m c h j) h j a
 refine ⟨fun y hy=>Ae m13 c4.1 c4.2 (jJ (a2 y hy)).1,?_,a1.ord⟩
 exact Nat.le_trans (BB (l:=g5 m c h j) (goal:=ck (g5 m c h j) h j) (ny m c h j) h j (fun y hy=>(pq m13 c4.1 c4.2 (List.mem_map.mpr ⟨y,(jJ hy).1,rfl⟩)).1) H.j0 H.j2) H.len
noncomputable def IF (C E:Addr):DS->M Out:=lr 2 (aL (bq 2 (bu C E)) (aa (af 0) (aa (af 3) aj)))
noncomputable def tδ (C:Addr) (m c:Nat) (xs:List D) (need:List Tl) (x3:Option DV):DS:=[some (hs C m c),some (.d (.list xs)),some (.own (need.map pr)),x3]
theorem u2 (C E:Addr) {m c:Nat} (xs:List D):∀(L:List Ml) (pre:List Tl) (x3:Option DV),(∀y∈L,MOk m c y/\zr m c y=true)->pre.length+13*L.length<=1000 ->
  ∃y3,du (ar 3) (IF C E) (L.map md) (tδ C m c xs pre x3)=rt (.nx (tδ C m c xs (pre++(L.map tl).flatten) y3))
 |[],pre,x3,_,_=>⟨x3,by simp; rfl⟩
 |y::L,pre,x3,h,hl=>by
  rw [List.length_cons] at hl
  obtain ⟨hy,ho⟩:=h y JZ
  have hyl:=hy.len
  obtain ⟨y3,ih⟩:=u2 C E xs L (pre++tl y) (some (.d (md y))) (fun z hz=>h z (JY _ hz)) (by rw [List.length_append]; lia)
  have hs':ar 3 (md y) (tδ C m c xs pre x3)=some (tδ C m c xs pre (some (.d (md y)))):=rfl
  have ht:=hy.tiles C E
  have hcall:aL (bq 2 (bu C E)) (aa (af 0) (aa (af 3) aj)) (tδ C m c xs pre (some (.d (md y))))=bu C E [hs C m c,.d (md y)]:=bT (bH (x:=hs C m c) (y:=.d (md y)) rfl rfl) rfl rfl rfl
  rw [ht,ho,if_pos rfl] at hcall
  have e1:IF C E (tδ C m c xs pre (some (.d (md y))))=rt (.nx (tδ C m c xs (pre++tl y) (some (.d (md y))))):=by
   unfold IF
   rw [tZ (xs:=pre.map pr) (ys:=(tl y).map pr) rfl hcall (by rw [List.length_map,List.length_map]; lia),<-List.map_append]
   rfl
  refine ⟨y3,?_⟩
  rw [List.map_cons,du,hs',aR,aE,e1,aE,lq,ih,List.map_cons,List.flatten_cons,List.append_assoc]
theorem Lay.need {m c:Nat}:∀{L:List Ml},(∀y∈L,MOk m c y/\zr m c y=true)->(L.map tl).flatten.length<=13*L.length
 |[],_=>by simp
 |y::L,h=>by
  have h1:=(h y JZ).1.len
  have h2:=Lay.need (L:=L) fun z hz=>h z (JY _ hz)
  rw [List.map_cons,List.flatten_cons,List.length_append,List.length_cons]
  lia
theorem Hx (C E:Addr) {m c:Nat} {L:List Ml} (LO:Lay m c L):cw C E [hs C m c,.d (.list (L.map md))]=rt (.new ((L.map tl).flatten.map pr)):=by
 have hll:=LO.len
 have hM:∀x∈L.map md,vq x:=fun x hx=>by
  obtain ⟨y,_,rfl⟩:=List.mem_map.mp hx
  exact wL y
 obtain ⟨y3,e⟩:=u2 C E (L.map md) L [] none LO.ok (by simp; lia)
 rw [List.nil_append] at e
 have ho:=Ba (L.map md) hM (by rw [List.length_map]; lia)
 rw [LO.ord] at ho
 unfold cw
 refine dH (x:=.own ((L.map tl).flatten.map pr)) ?_
 unfold g8
 refine gf (δ':=tδ C m c (L.map md) [] none) rfl ?_
 refine gf (δ':=tδ C m c (L.map md) (L.map tl).flatten y3) (jw (xs:=L.map md) (gd rfl) e) ?_
 have ht:(gP (fun δ=>bd ((aL (ax 1 (bj)) (aa (af 1) aj)) δ) bI)) (tδ C m c (L.map md) (L.map tl).flatten y3)=rt false:=xR (a8 (bB (n:=1) (bh (x:=.d (.list (L.map md))) rfl) rfl rfl ho)) rfl
 exact gf (δ':=tδ C m c (L.map md) (L.map tl).flatten y3) (CL ht rfl) (bC rfl)
theorem GG (C Eh El:Addr) {m c:Nat} {h:List Tl} {j:Int} (H:Hand m c h j) {L:List Ml} (LO:Lay m c L) (hj:0<=jl h j (L.map tl).flatten):mV C Eh El [hs C m c,.d (.list (h.map pr)),.d (.int j),.d (.list (L.map md))]=rt (.nwt [] ((av h (L.map tl).flatten).map pr) [.int (jl h j (L.map tl).flatten)]):=by
 have hl:h.length<=1000:=by have:=H.len; lia
 have hn:=Lay.need LO.ok
 have hll:=LO.len
 have hlo:=j4 h j (L.map tl).flatten 0x1
 unfold mV
 refine dH (x:=.tpo [] ((av h (L.map tl).flatten).map pr) [.int (jl h j (L.map tl).flatten)]) ?_
 unfold zH
 refine gf (oq (bT (dG (x:=hs C m c) (y:=.d (.list (h.map pr))) (z:=.d (.int j)) rfl rfl rfl) rfl rfl (lN C Eh hl H.ok))) ?_
 refine gf (δ':=[some (hs C m c),some (.d (.list (h.map pr))),some (.d (.int j)),some (.d (.list (L.map md))),some (.tpo [] ((av h (L.map tl).flatten).map pr) [.int (jl h j (L.map tl).flatten)])]) (fC (x:=.nwt [] ((av h (L.map tl).flatten).map pr) [.int (jl h j (L.map tl).flatten)]) (bB (dG (x:=.d (.list (h.map pr))) (y:=.d (.int j)) (z:=.new ((L.map tl).flatten.map pr)) rfl rfl (bT (bH (x:=hs C m c) (y:=.d (.list (L.map md))) rfl rfl) rfl rfl (Hx C El LO))) rfl rfl hlo) rfl rfl) ?_
 have htest:(fun δ=>(fun δ=>bd (e2 fJ (e2 bN (af 4) (eC (.int 1))) (eC (.int 0)) δ) bI) (frz 4 δ)) [some (hs C m c),some (.d (.list (h.map pr))),some (.d (.int j)),some (.d (.list (L.map md))),some (.tpo [] ((av h (L.map tl).flatten).map pr) [.int (jl h j (L.map tl).flatten)])]=rt (decide (jl h j (L.map tl).flatten<0)):=by
  change (fun δ=>bd (e2 fJ (e2 bN (af 4) (eC (.int 1))) (eC (.int 0)) δ) bI) [some (hs C m c),some (.d (.list (h.map pr))),some (.d (.int j)),some (.d (.list (L.map md))),some (.d (.tuple [.list ((av h (L.map tl).flatten).map pr),.int (jl h j (L.map tl).flatten)]))]=_
  exact a8 ((au (x:=.d (.int (jl h j (L.map tl).flatten))) (y:=.d (.int 0)) ((au (x:=.d (.tuple [.list ((av h (L.map tl).flatten).map pr),.int (jl h j (L.map tl).flatten)])) (y:=.d (.int 1)) rfl rfl).trans (aK rfl)) rfl).trans (dw _ _))
 rw [decide_eq_false 0x1] at htest
 exact gf (CL htest rfl) (bC rfl)
end LW
namespace K8
open PySem PySem.Spec L2 L3 LW
section
variable {P:Program} {w:World} {C CT Eh El:Addr}
theorem JX {fa fb fc:DS->M DV} {δ:DS} {m c:Nat} (hm:m<=13) (h1:1<=c) (h4:c<=4) {h:List Tl} {j:Int} (H:Hand m c h j) (ha:fa δ=rt (hs C m c)) (hb:fb δ=rt (.d (.list (h.map pr)))) (hc:fc δ=rt (.d (.int j))) :
  aL (bq 3 (bz P w C CT Eh El (iU P w CT 12))) (aa fa (aa fb (aa fc aj))) δ=rt (.d (.bool (GO m c h j))):=
 bT (n:=3) (dG (x:=hs C m c) (y:=.d (.list (h.map pr))) (z:=.d (.int j)) ha hb hc) rfl rfl (nt hm h1 h4 H)
theorem JA {fa fb fc:DS->M DV} {δ:DS} {m c:Nat} (hm:m<=13) (h1:1<=c) (h4:c<=4) {h:List Tl} {j:Int} (H:Hand m c h j) (ha:fa δ=rt (hs C m c)) (hb:fb δ=rt (.new (h.map pr))) (hc:fc δ=rt (.d (.int j))) :
  aL (bq 3 (bz P w C CT Eh El (iU P w CT 12))) (aa fa (aa fb (aa fc aj))) δ=rt (.d (.bool (GO m c h j))):=
 bT (n:=3) (dG (x:=hs C m c) (y:=.new (h.map pr)) (z:=.d (.int j)) ha hb hc) rfl rfl (nt hm h1 h4 H)
theorem JI {fa fb fc:DS->M DV} {δ:DS} {m c:Nat} (hm:m<=13) (h1:1<=c) (h4:c<=4) {h:List Tl} {j:Int} (H:Hand m c h j) (ha:fa δ=rt (hs C m c)) (hb:fb δ=rt (.d (.list (h.map pr)))) (hc:fc δ=rt (.d (.int j))) :
  aL (bq 3 (cB P w C CT Eh El (iU P w CT 12))) (aa fa (aa fb (aa fc aj))) δ=rt (.new ((HE m c h j).map pr)):=
 bT (n:=3) (dG (x:=hs C m c) (y:=.d (.list (h.map pr))) (z:=.d (.int j)) ha hb hc) rfl rfl (qk hm h1 h4 H)
theorem JW {fa fb fc:DS->M DV} {δ:DS} {m c:Nat} (hm:m<=13) (h1:1<=c) (h4:c<=4) {h:List Tl} {j:Int} (H:Hand m c h j) (ha:fa δ=rt (hs C m c)) (hb:fb δ=rt (.new (h.map pr))) (hc:fc δ=rt (.d (.int j))) :
  aL (bq 3 (cB P w C CT Eh El (iU P w CT 12))) (aa fa (aa fb (aa fc aj))) δ=rt (.new ((HE m c h j).map pr)):=
 bT (n:=3) (dG (x:=hs C m c) (y:=.new (h.map pr)) (z:=.d (.int j)) ha hb hc) rfl rfl (qk hm h1 h4 H)
theorem Iz {δ:DS} {m c:Nat} (hm:m∈[3,4,5,6]) (hc:c∈[1,2,3]) {h:List Tl} {j:Int} (H:Hand m c h j) (ha:af 3 δ=rt (hs C m c)) (hb:af 4 δ=rt (.d (.list (h.map pr)))) (hd:af 5 δ=rt (.d (.int j))) :
  e2 (g7 false) (e2 bN (kZ (aL (bq 4 (mV C Eh El)) (aa (af 3) (aa (af 4) (aa (af 5) (aa (e2 bN (kZ (aL (bq 3 (gm P w C CT Eh El (kq P w CT 12))) (aa (af 3) (aa (af 4) (aa (af 5) aj))))) (eC (.int 1))) aj)))))) (eC (.int 0))) (cC aj) δ=rt (.d (.bool (GO m c h j))):=by
 have m13:m<=13:=by simp at hm; lia
 have c4:1<=c/\c<=4:=by simp at hc; lia
 have b1:e2 bN (kZ (aL (bq 3 (gm P w C CT Eh El (kq P w CT 12))) (aa (af 3) (aa (af 4) (aa (af 5) aj))))) (eC (.int 1)) δ=rt (.d (.list ((BL m c h j).map md))):=by
  refine (au (x:=.d (.tuple [.int (GW m c h j),.list ((BL m c h j).map md)])) (y:=.d (.int 1)) ?_ rfl).trans (aK rfl)
  unfold kZ
  rw [bT (n:=3) (dG (x:=hs C m c) (y:=.d (.list (h.map pr))) (z:=.d (.int j)) ha hb hd) rfl rfl (CK m13 c4.1 c4.2 H)]
  rfl
 have bl:=uJ m13 c4.1 c4.2 H
 have lf:=GG C Eh El H (FJ hm hc H) bl.2
 refine (au (x:=.d (.list ((av h ((BL m c h j).map tl).flatten).map pr))) (y:=.new []) ((au (x:=.d (.tuple [.list ((av h ((BL m c h j).map tl).flatten).map pr),.int (jl h j ((BL m c h j).map tl).flatten)])) (y:=.d (.int 0)) ?_ rfl).trans (aK rfl)) rfl).trans ?_
 ·exact (congrArg (fun z=>bd z fun x=>rt (AQ x)) (bT (n:=4) (xy (x:=hs C m c) (y:=.d (.list (h.map pr))) (z:=.d (.int j)) (u:=.d (.list ((BL m c h j).map md))) ha hb hd b1) rfl rfl lf)).trans rfl
 ·rw [CV false _ [] (.new []) rfl]
  have:=Gz m13 c4.1 c4.2 H
  cases hg:GO m c h j with
  |true=>rw [hg] at this; simp [this.mpr rfl]
  |false=>rw [hg] at this; simp at this; simp [this]
theorem Ew (r:List Tl) (p:Tl):yX false (.d (pr p)) (.new (r.map pr))=rt (.d (.bool (decide (p∈r)))):=ua r p
theorem yu (a b:Bool):g7 true (.d (.bool a)) (.d (.bool b))=rt (.d (.bool (!(a==b)))):=by cases a <;> cases b <;> rfl
end
theorem kf {m c:Nat} {h:List Tl} {j:Int} (H:Hand m c h j) {t:Tl} (ht:aX m c t=true) (h2:iK h t<2) (hl:h.length<12):Hand m c (vK (h++[t])) j:=by
 have p:=iu (h++[t])
 refine ⟨by rw [p.length_eq,List.length_append]; show h.length+1<=12; lia,H.j0,H.j2,fun q hq=>?_,fun q=>?_,yw _⟩
 ·rcases List.mem_append.mp (p.mem_iff.mp hq) with z|z
  ·exact H.tile q z
  ·rw [List.mem_singleton.mp z]; exact ht
 ·rw [tR,p.count_eq,<-tR,xo]
  have:=H.two q
  split
  ·rename_i e; subst e; lia
  ·lia
theorem wU {m c:Nat} (hm:m<=13) (h1:1<=c) (h4:c<=4) {h:List Tl} {j:Int} (H:Hand m c h j) (hl:h.length<12) (t:Tl):t∈HE m c h j↔aX m c t=true/\iK h t<2/\GO m c (vK (h++[t])) j=true:=by
 unfold HE
 rw [if_neg 0x1,List.mem_filter,List.mem_filter,u9,decide_eq_true_eq]
 constructor
 ·rintro ⟨⟨a,b⟩,d⟩
  have H':=kf H a b hl
  rw [B2 hm h1 h4 t (h:=h) H' ((iu _).trans List.perm_append_comm)] at d
  exact ⟨a,b,d⟩
 ·rintro ⟨a,b,d⟩
  have H':=kf H a b hl
  refine ⟨⟨a,b⟩,?_⟩
  rw [B2 hm h1 h4 t (h:=h) H' ((iu _).trans List.perm_append_comm)]
  exact d
noncomputable def pδ (K:Kd) (ns:List Int) (C:Addr) (m c:Nat) (x4 x5 x6 x7 x8 x9 x10 x11:Option DV):DS:=[some (.scr K ns),some (.d (.int (m:Int))),some (.d (.int (c:Int))),some (hs C m c),x4,x5,x6,x7,x8,x9,x10,x11]
noncomputable abbrev jz (h:List Tl):Option DV:=some (.d (.list (h.map pr)))
noncomputable abbrev nm (i:Int):Option DV:=some (.d (.int i))
noncomputable abbrev bl (b:Bool):Option DV:=some (.d (.bool b))
theorem uz (a b:Int):sL [.d (.int a),.d (.int b)]=rt (.d (.int (min a b))):=by
 have:(if b<a then b else a)=min a b:=by rw [Int.min_def]; split <;> split <;> lia
 rw [<-this]
 rfl
theorem DI {δ:DS} {h:List Tl} (hb:af 4 δ=rt (.d (.list (h.map pr)))):aL dF (aa (af 4) aj) δ=rt (.d (.int (h.length:Int))):=(cj (bh (x:=.d (.list (h.map pr))) hb)).trans (iq h)
theorem G6 {δ:DS} {h:List Tl} {t:Tl} (hb:af 4 δ=rt (.d (.list (h.map pr)))) (ht:af 10 δ=rt (.d (pr t))):iO (af 4) (af 10) δ=rt (.d (.int (iK h t))):=(wI (x:=.d (.list (h.map pr))) (y:=.d (pr t)) hb rfl ht).trans (oF h t)
theorem EE {δ:DS} {h:List Tl} {t:Tl} (hl:h.length<12) (hb:af 4 δ=rt (.d (.list (h.map pr)))) (ht:af 10 δ=rt (.d (pr t))):aL kY (aa (e2 aH (af 4) (cC (aa (af 10) aj))) aj) δ=rt (.new ((vK (h++[t])).map pr)):=by
 refine rG (x:=.new ((h++[t]).map pr)) (ps:=h++[t]) ((au (x:=.d (.list (h.map pr))) (y:=.new [pr t]) hb ?_).trans (by rw [List.map_append]; exact oz rfl rfl rfl (by rw [List.length_map]; show h.length+1<=1000000; lia))) rfl (by rw [List.length_append]; show h.length+1<64; lia) (Ai _)
 unfold cC
 rw [bh ht]
 rfl
theorem Fc (P:Program) (w:World) (K:Kd) (C CT J9 Ka Kb:Addr) (ns:List Int) (_:ns.length<=63):rU P w K C CT J9 Ka Kb (kq P w CT 12) (iU P w CT 12) [.scr K ns]=rt (.d (.bool true)):=by
 obtain ⟨m',c',eh,g1,g2,g3,g4⟩:=Ex K ns
 obtain ⟨m,em⟩:=Int.eq_ofNat_of_zero_le (show 0<=min m' 6 by lia)
 obtain ⟨c,ec⟩:=Int.eq_ofNat_of_zero_le (show 0<=min c' 3 by lia)
 have hmm:m∈[3,4,5,6]:=by
  have:m=3\/m=4\/m=5\/m=6:=by lia
  simpa using this
 have hcc:c∈[1,2,3]:=by
  have:c=1\/c=2\/c=3:=by lia
  simpa using this
 have hm:m<=13:=by lia
 have hc:c<=4:=by lia
 have hc1:1<=c:=by lia
 obtain ⟨h,e1,l1,t1,d1,o1⟩:=wH K ns m c 2 6 0x3 0x3 0x3 0x1 0x1 0x1 0x1
 obtain ⟨n,hn⟩:∃n:Int,n=if (h.length:Int)<4 then 3 else 2:=⟨_,rfl⟩
 have n0:0<n/\n<=3:=by rw [hn]; split <;> lia
 obtain ⟨j,hj⟩:∃j,j=cp ns 20 % n:=⟨_,rfl⟩
 have j0:0<=j:=by rw [hj]; exact Int.emod_nonneg _ 0x1
 have j2:j<n:=by rw [hj]; exact Int.emod_lt_of_pos _ 0x1
 have H:Hand m c h j:=⟨0x1,j0,0x1,t1,d1,wC o1⟩
 have hl:h.length<12:=by lia
 unfold rU
 refine dH (x:=.d (.bool true)) ?_
 unfold EV
 refine gf (δ':=[some (.scr K ns),some (.d (.int m')),some (.d (.int c')),none,none,none,none,none,none,none,none,none]) (EU (x:=.d (.tuple [.int m',.int c'])) (bB (bh rfl) rfl rfl eh) rfl rfl) ?_
 refine gf (δ':=[some (.scr K ns),some (.d (.int (m:Int))),some (.d (.int c')),none,none,none,none,none,none,none,none,none]) (fC (x:=.d (.int (m:Int))) (by
  rw [<-em]; exact (cj (bH (x:=.d (.int m')) (y:=.d (.int 6)) rfl rfl)).trans (uz _ _)) rfl rfl) ?_
 refine gf (δ':=[some (.scr K ns),some (.d (.int (m:Int))),some (.d (.int (c:Int))),none,none,none,none,none,none,none,none,none]) (fC (x:=.d (.int (c:Int))) (by
  rw [<-ec]; exact (cj (bH (x:=.d (.int c')) (y:=.d (.int 3)) rfl rfl)).trans (uz _ _)) rfl rfl) ?_
 refine gf (δ':=pδ K ns C m c none none none none none none none none) (fC (JK (m:=(m:Int)) (c:=(c:Int)) rfl rfl 0x1 0x1 0x1 0x1) rfl rfl) ?_
 refine gf (δ':=pδ K ns C m c (some (.own (h.map pr))) none none none none none none none) (fC (x:=.new (h.map pr)) (bB (JR (x:=.scr K ns) (y:=.d (.int 2)) (z:=.d (.int (m:Int))) (u:=.d (.int (c:Int))) (v:=.d (.int 6)) rfl rfl rfl rfl rfl) rfl rfl e1) rfl rfl) ?_
 refine gf (δ':=pδ K ns C m c (some (.own (h.map pr))) (nm j) none none none none none none) (fC (x:=.d (.int j)) ?_ rfl rfl) ?_
 ·have hlen:aL Ar (aa (e2 fJ (aL dF (aa (af 4) aj)) (eC (.int 4))) aj) (pδ K ns C m c (some (.own (h.map pr))) none none none none none none none)=rt (.d (.int (if (h.length:Int)<4 then 1 else 0))):=by
   rw [cj (bh (x:=.d (.bool (decide ((h.length:Int)<4)))) ((au (x:=.d (.int (h.length:Int))) (y:=.d (.int 4)) ((cj (bh (x:=.own (h.map pr)) rfl)).trans (lM h)) rfl).trans (dw _ _)))]
   by_cases h4:(h.length:Int)<4
   ·rw [decide_eq_true h4,if_pos h4]; rfl
   ·rw [decide_eq_false h4,if_neg h4]; rfl
  have hpick:e2 bN (cC (aa (eC (.int 2)) (aa (eC (.int 3)) aj))) (aL Ar (aa (e2 fJ (aL dF (aa (af 4) aj)) (eC (.int 4))) aj)) (pδ K ns C m c (some (.own (h.map pr))) none none none none none none none)=rt (.d (.int n)):=by
   rw [au (x:=.new [.int 2,.int 3]) rfl hlen,hn]
   split <;> rfl
  rw [hj]
  exact (au (x:=.d (.int (cp ns 20))) (y:=.d (.int n)) (va (K:=K) (ns:=ns) rfl rfl 0x3) hpick).trans (eR n0.1)
 change bE _ _ (pδ K ns C m c (jz h) (nm j) none none none none none none)=_
 refine gf (δ':=pδ K ns C m c (jz h) (nm j) (bl (GO m c h j)) none none none none none) (fC (x:=.d (.bool (GO m c h j))) (Iz hmm hcc H rfl rfl rfl) rfl rfl) ?_
 change bE _ _ (pδ K ns C m c (jz h) (nm j) (bl (GO m c h j)) none none none none none)=_
 refine gf (δ':=pδ K ns C m c (jz h) (nm j) (bl (GO m c h j)) none none none none none) (CL (a8 ((au (x:=.d (.bool (GO m c h j))) (y:=.d (.bool (GO m c h j))) (JX hm hc1 hc H rfl rfl rfl) rfl).trans ((yu _ _).trans (by rw [beq_self_eq_true]; rfl)))) rfl) ?_
 change bE _ _ (pδ K ns C m c (jz h) (nm j) (bl (GO m c h j)) none none none none none)=_
 refine gf (δ':=pδ K ns C m c (jz h) (nm j) (bl (GO m c h j)) (some (.own ((HE m c h j).map pr))) none none none none) (fC (x:=.new ((HE m c h j).map pr)) (JI hm hc1 hc H rfl rfl rfl) rfl rfl) ?_
 obtain ⟨cell,hcell⟩:∃cell,cell=cp ns 21:=⟨_,rfl⟩
 refine gf (δ':=pδ K ns C m c (jz h) (nm j) (bl (GO m c h j)) (some (.own ((HE m c h j).map pr))) (nm cell) none none none) (fC (x:=.d (.int cell)) (by rw [hcell]; exact va (K:=K) (ns:=ns) rfl rfl 0x3) rfl rfl) ?_
 obtain ⟨δ1,el,x9,x10,rfl⟩:=qt (i:=9) (B:=(bE (aW 10 (bf (aa (e2 aH (eC (.int 1)) (aL (ax 3 (aw)) (aa (af 8) (aa (e2 fq (eC (.int 2)) (af 9)) (aa (af 1) aj))))) (aa (aL (ax 3 (aw)) (aa (af 8) (aa (e2 aH (e2 fq (eC (.int 2)) (af 9)) (eC (.int 1))) (aa (af 2) aj)))) aj)))) (fQ (jo (fun δ=>bd (e2 fJ (iO (af 4) (af 10)) (eC (.int 2)) δ) bI) (fun δ=>bd (e2 (g7 true) (aL (bq 3 (bz P w C CT J9 Kb (iU P w CT 12))) (aa (af 3) (aa (aL kY (aa (e2 aH (af 4) (cC (aa (af 10) aj))) aj)) (aa (af 5) aj)))) (e2 (yX false) (af 10) (af 7)) δ) bI)) (aZ (eC (.bool false))) bP)))
  (I:=fun δ=>∃x9 x10,δ=pδ K ns C m c (jz h) (nm j) (bl (GO m c h j)) (some (.own ((HE m c h j).map pr))) (nm cell) x9 x10 none) (df 0 4) (pδ K ns C m c (jz h) (nm j) (bl (GO m c h j)) (some (.own ((HE m c h j).map pr))) (nm cell) none none none) (fun x hx δ ⟨x9,x10,e⟩=>by
   subst e
   obtain ⟨k,rfl⟩:∃k:Int,x=.int k:=by
    unfold df at hx
    obtain ⟨i,_,rfl⟩:=List.mem_map.mp hx
    exact ⟨_,rfl⟩
   obtain ⟨r1,f1,r10,r1m⟩:=tq (δ:=pδ K ns C m c (jz h) (nm j) (bl (GO m c h j)) (some (.own ((HE m c h j).map pr))) (nm cell) (nm k) x10 none) (fa:=af 8) (fb:=e2 fq (eC (.int 2)) (af 9)) (fc:=af 1) (cell:=cell) (k:=2*k) (many:=(m:Int)) rfl rfl rfl 0x1
   obtain ⟨r2,f2,r20,r2m⟩:=tq (δ:=pδ K ns C m c (jz h) (nm j) (bl (GO m c h j)) (some (.own ((HE m c h j).map pr))) (nm cell) (nm k) x10 none) (fa:=af 8) (fb:=e2 aH (e2 fq (eC (.int 2)) (af 9)) (eC (.int 1))) (fc:=af 2) (cell:=cell) (k:=2*k+1) (many:=(c:Int)) rfl rfl rfl 0x1
   obtain ⟨t,ht⟩:∃t:Tl,t=(1+r1,r2):=⟨_,rfl⟩
   have tk:aX m c t=true:=by
    rw [ht]
    unfold aX
    simp
    lia
   refine ⟨pδ K ns C m c (jz h) (nm j) (bl (GO m c h j)) (some (.own ((HE m c h j).map pr))) (nm cell) (nm k) (some (.d (pr t))) none,?_,_,_,rfl⟩
   change bE _ _ (pδ K ns C m c (jz h) (nm j) (bl (GO m c h j)) (some (.own ((HE m c h j).map pr))) (nm cell) (nm k) x10 none)=_
   refine gf (δ':=pδ K ns C m c (jz h) (nm j) (bl (GO m c h j)) (some (.own ((HE m c h j).map pr))) (nm cell) (nm k) (some (.d (pr t))) none) (fC (x:=.d (pr t)) ?_ rfl rfl) ?_
   ·unfold bf
    rw [bH (x:=.d (.int t.1)) (y:=.d (.int t.2)) ((au (x:=.d (.int 1)) (y:=.d (.int r1)) rfl f1).trans (by rw [ht]; exact b9 _ _)) (by rw [ht]; exact f2)]
    rfl
   ·have q1:(fun δ=>bd (e2 fJ (iO (af 4) (af 10)) (eC (.int 2)) δ) bI) (pδ K ns C m c (jz h) (nm j) (bl (GO m c h j)) (some (.own ((HE m c h j).map pr))) (nm cell) (nm k) (some (.d (pr t))) none)=rt (decide (iK h t<2)):=a8 ((au (x:=.d (.int (iK h t))) (y:=.d (.int 2)) (G6 rfl rfl) rfl).trans (dw _ _))
    by_cases h2:iK h t<2
    ·rw [decide_eq_true h2] at q1
     refine CL (xJ q1 (a8 (b:=false) ((au (x:=.d (.bool (GO m c (vK (h++[t])) j))) (y:=.d (.bool (decide (t∈HE m c h j)))) (JA hm hc1 hc (kf H tk h2 hl) rfl (EE hl rfl rfl) rfl) ((au (x:=.d (pr t)) (y:=.own ((HE m c h j).map pr)) rfl rfl).trans (ua _ _))).trans ((yu _ _).trans ?_)))) rfl
     have e:decide (t∈HE m c h j)=GO m c (vK (h++[t])) j:=by
      rw [Bool.eq_iff_iff,decide_eq_true_eq,wU hm hc1 hc H hl]
      exact ⟨fun z=>z.2.2,fun z=>⟨tk,h2,z⟩⟩
     rw [e,beq_self_eq_true]
     rfl
    ·rw [decide_eq_false h2] at q1
     exact CL (Bj q1) rfl) ⟨none,none,rfl⟩
 refine gf (jw (xs:=df 0 4) (jK (bh (x:=.d (.int 4)) rfl) 0x3 0x3) el) ?_
 change bE _ _ (pδ K ns C m c (jz h) (nm j) (bl (GO m c h j)) (jz (HE m c h j)) (nm cell) x9 x10 none)=_
 obtain ⟨δ2,el2,y10,rfl⟩:=qt (i:=10) (B:=(fQ (DF (fun δ=>bd (e2 Cd (iO (af 4) (af 10)) (eC (.int 1)) δ) bI) (fun δ=>bd (e2 (Iy true) (aL (bq 3 (bz P w C CT J9 Kb (iU P w CT 12))) (aa (af 3) (aa (aL kY (aa (e2 aH (af 4) (cC (aa (af 10) aj))) aj)) (aa (af 5) aj)))) (eC (.bool true)) δ) bI)) (aZ (eC (.bool false))) bP))
  (I:=fun δ=>∃x10,δ=pδ K ns C m c (jz h) (nm j) (bl (GO m c h j)) (jz (HE m c h j)) (nm cell) x9 x10 none) ((HE m c h j).map pr) (pδ K ns C m c (jz h) (nm j) (bl (GO m c h j)) (jz (HE m c h j)) (nm cell) x9 x10 none) (fun x hx δ ⟨x10,e⟩=>by
   subst e
   obtain ⟨t,ht,rfl⟩:=List.mem_map.mp hx
   obtain ⟨tk,h2,hg⟩:=(wU hm hc1 hc H hl t).mp ht
   refine ⟨pδ K ns C m c (jz h) (nm j) (bl (GO m c h j)) (jz (HE m c h j)) (nm cell) x9 (some (.d (pr t))) none,?_,_,rfl⟩
   change fQ _ _ _ (pδ K ns C m c (jz h) (nm j) (bl (GO m c h j)) (jz (HE m c h j)) (nm cell) x9 (some (.d (pr t))) none)=_
   have q1:(fun δ=>bd (e2 Cd (iO (af 4) (af 10)) (eC (.int 1)) δ) bI) (pδ K ns C m c (jz h) (nm j) (bl (GO m c h j)) (jz (HE m c h j)) (nm cell) x9 (some (.d (pr t))) none)=rt (decide (1<iK h t)):=a8 ((au (x:=.d (.int (iK h t))) (y:=.d (.int 1)) (G6 rfl rfl) rfl).trans (lO _ _))
   rw [decide_eq_false 0x1] at q1
   refine CL (Il q1 (a8 (b:=false) ((au (x:=.d (.bool (GO m c (vK (h++[t])) j))) (y:=.d (.bool true)) (JA hm hc1 hc (kf H tk h2 hl) rfl (EE hl rfl rfl) rfl) rfl).trans ?_))) rfl
   rw [hg]
   rfl) ⟨x10,rfl⟩
 refine gf (jw (xs:=(HE m c h j).map pr) (gd rfl) el2) ?_
 have hz:(fun δ=>bd (e2 (g7 false) (aL dF (aa (af 4) aj)) (eC (.int 0)) δ) bI) (pδ K ns C m c (jz h) (nm j) (bl (GO m c h j)) (jz (HE m c h j)) (nm cell) x9 y10 none)=rt ((h.length:Int)==0):=a8 ((au (x:=.d (.int (h.length:Int))) (y:=.d (.int 0)) (DI rfl) rfl).trans (i8 _ _))
 by_cases h0:h=[]
 ·subst h0
  unfold bE
  rw [iB hz]
  rfl
 ·have hpos:0<h.length:=List.length_pos_iff.mpr h0
  have hz':((h.length:Int)==0)=false:=by
   rw [beq_eq_false_iff_ne]; lia
  rw [hz'] at hz
  refine gf (δ':=pδ K ns C m c (jz h) (nm j) (bl (GO m c h j)) (jz (HE m c h j)) (nm cell) x9 y10 none) (CL hz rfl) ?_
  obtain ⟨a,ha⟩:∃a:Nat,cell % (h.length:Int)=(a:Int):=⟨(cell % (h.length:Int)).toNat,by have:=Int.emod_nonneg cell (show (h.length:Int)≠0 by lia); lia⟩
  have hal:a<h.length:=by have:=Int.emod_lt_of_pos cell (show (0:Int)<h.length by lia); lia
  refine gf (δ':=pδ K ns C m c (jz h) (nm j) (bl (GO m c h j)) (jz (HE m c h j)) (nm cell) x9 y10 (nm (a:Int))) (fC (x:=.d (.int (a:Int))) ((au (x:=.d (.int cell)) (y:=.d (.int (h.length:Int))) rfl (DI rfl)).trans (by rw [eR 0x1,ha])) rfl rfl) ?_
  refine bC ?_
  obtain ⟨X,hX⟩:∃X,X=pδ K ns C m c (jz h) (nm j) (bl (GO m c h j)) (jz (HE m c h j)) (nm cell) x9 y10 (nm (a:Int)):=⟨_,rfl⟩
  rw [<-hX]
  cases hg:GO m c h j with
  |false=>
   unfold F7 wV
   have:af 6 X=rt (.d (.bool false)):=by rw [hX,hg]; rfl
   rw [this]
   rfl
  |true=>
   have v6:af 6 X=rt (.d (.bool true)):=by rw [hX,hg]; rfl
   unfold F7 wV
   rw [v6]
   change e2 (yX false) _ _ X=_
   have pe:(h[a]::h.eraseIdx a).Perm h:=by
    rw [List.eraseIdx_eq_take_drop_succ]
    refine List.perm_middle.symm.trans ?_
    rw [<-List.drop_eq_getElem_cons hal,List.take_append_drop]
   have sb:(h.eraseIdx a).Sublist h:=List.eraseIdx_sublist h a
   have ea:(h.take a++h.drop (a+1))=h.eraseIdx a:=(List.eraseIdx_eq_take_drop_succ h a).symm
   have H0:Hand m c (h.eraseIdx a) j:=⟨Nat.le_trans sb.length_le H.len,H.j0,H.j2,fun p hp=>H.tile p (sb.subset hp),fun p=>by
    have h1:=H.two p
    rw [tR] at h1 ⊢
    have:=sb.count_le p
    lia,H.ord.sublist sb⟩
   have cH:uy (af 4) (af 11) X=rt (.new ((h.take a).map pr)):=by
    rw [hX]
    show rt (DV.new (lU (h.map pr) none (some (a:Int))))=_
    have:lU (h.map pr) none (some (a:Int))=(h.take a).map pr:=by
     unfold lU
     rw [HT.sIx_none,HT.sIx_nat,List.length_map,List.drop_zero,List.map_take,Nat.sub_zero,Nat.min_eq_left 0x1]
    rw [this]
   have cL:uX (af 4) (e2 aH (af 11) (eC (.int 1))) X=rt (.new ((h.drop (a+1)).map pr)):=by
    rw [hX]
    show rt (DV.new (lU (h.map pr) (some ((a:Int)+1)) none))=_
    have:lU (h.map pr) (some ((a:Int)+1)) none=(h.drop (a+1)).map pr:=by
     unfold lU
     rw [HT.sIx_none,show ((a:Int)+1)=((a+1:Nat):Int) by lia,HT.sIx_nat,List.length_map,Nat.min_eq_left 0x1,List.map_drop]
     exact List.take_of_length_le (by rw [List.length_drop,List.length_map]; lia)
    rw [this]
   have ag:e2 aH (uy (af 4) (af 11)) (uX (af 4) (e2 aH (af 11) (eC (.int 1)))) X=rt (.new ((h.eraseIdx a).map pr)):=by
    refine (au (x:=.new ((h.take a).map pr)) (y:=.new ((h.drop (a+1)).map pr)) cH cL).trans ?_
    rw [<-ea,List.map_append]
    exact oz rfl rfl rfl (by rw [List.length_map,List.length_map,List.length_take,List.length_drop]; lia)
   refine (au (x:=.d (pr h[a])) (y:=.new ((HE m c (h.eraseIdx a) j).map pr)) ((au (x:=.d (.list (h.map pr))) (y:=.d (.int (a:Int))) (by rw [hX]; rfl) (by rw [hX]; rfl)).trans (iY ?_)) (JW hm hc1 hc H0 (by rw [hX]; rfl) ag (by rw [hX]; rfl))).trans ((Ew _ _).trans ?_)
   ·unfold atI Ci
    rw [List.length_map,if_pos 0x1,if_pos 0x1,Int.toNat_natCast]
    show (h.map pr)[a]?=_
    rw [List.getElem?_map,List.getElem?_eq_getElem hal]
    rfl
   ·have hin:h[a]∈HE m c (h.eraseIdx a) j:=by
     refine (wU hm hc1 hc H0 (Nat.lt_of_le_of_lt sb.length_le hl) h[a]).mpr ⟨H.tile _ (List.getElem_mem hal),?_,?_⟩
     ·have h1:=H.two h[a]
      rw [tR] at h1 ⊢
      have:=pe.count_eq h[a]
      rw [List.count_cons_self] at this
      lia
     ·rw [Gu ((List.perm_append_comm).trans pe) H.ord,hg]
    rw [decide_eq_true hin]
open PyProof.Rows hiding St
theorem u7 {n:Nat}:∀{us:List Value},us.length=n+1->∃a r,us=a::r/\r.length=n:=fun {us} h=>by cases us with|nil=>cases h|cons a r=>exact ⟨a,r,rfl,Nat.succ.inj h⟩
theorem qD {us:List Value} (h:us.length=1):∃a0,us=[a0]:=by
 obtain ⟨a0,r,e,h1⟩:=u7 h
 subst e
 cases List.eq_nil_of_length_eq_zero h1
 exact ⟨a0,rfl⟩
theorem vo {us:List Value} (h:us.length=2):∃a0 a1,us=[a0,a1]:=by
 obtain ⟨a0,r,e,h1⟩:=u7 h
 subst e
 obtain ⟨a1,rfl⟩:=qD h1
 exact ⟨a0,a1,rfl⟩
theorem kS {us:List Value} (h:us.length=3):∃a0 a1 a2,us=[a0,a1,a2]:=by
 obtain ⟨a0,r,e,h1⟩:=u7 h
 subst e
 obtain ⟨a1,a2,rfl⟩:=vo h1
 exact ⟨a0,a1,a2,rfl⟩
theorem DO {us:List Value} (h:us.length=4):∃a0 a1 a2 a3,us=[a0,a1,a2,a3]:=by
 obtain ⟨a0,r,e,h1⟩:=u7 h
 subst e
 obtain ⟨a1,a2,a3,rfl⟩:=kS h1
 exact ⟨a0,a1,a2,a3,rfl⟩
theorem IP {us:List Value} (h:us.length=5):∃a0 a1 a2 a3 a4,us=[a0,a1,a2,a3,a4]:=by
 obtain ⟨a0,r,e,h1⟩:=u7 h
 subst e
 obtain ⟨a1,a2,a3,a4,rfl⟩:=DO h1
 exact ⟨a0,a1,a2,a3,a4,rfl⟩
noncomputable abbrev qY:Stmt:=j9 (jO 13) 0
theorem JT:FnScope ["self", "most", "colours"] ["self", "most", "colours"] (ao qY):=⟨rfl,rfl,rfl,0x2,rfl,0x2,0x2⟩
section
variable {P:Program} {w:World} {K:Kd} {mg:Str->Option Value} {base:Heap}
theorem xp {H:Hp} {p:V} {m c:Int}:RS [] [] H [some p,some (.int m),some (.int c)] [none,some (.d (.int m)),some (.d (.int c))]:=by
 refine ⟨rfl,fun a ha=>(nomatch ha),fun a ha=>(nomatch ha),fun i x h=>?_,fun i j x y v w a h1 h2 h3 h4 o1 o2=>?_⟩
 ·match i with
  |0=>cases h
  |1=>cases h; exact ⟨_,rfl,fun _=>nofun,.int m⟩
  |2=>cases h; exact ⟨_,rfl,fun _=>nofun,.int c⟩
  |i+3=>simp at h
 ·match i with
  |0=>cases h1
  |1=>cases h1; exact o1.elim
  |2=>cases h1; exact o1.elim
  |i+3=>simp at h1
theorem CW {f C CB:Addr} {fd:FuncData} (Fu:Fun K "__init__" "House.__init__" qY f fd) (T:Tx K mg C) (O:Xc K mg "BadHouse" CB):FnOk P w K mg base (vB P w) 1 f fd ["self", "most", "colours"] (Jo C CB good "most" "colours"):=by
 obtain ⟨oc,od,kV,doc,pm,an,cdv,ct,osl,rfl,lk,hcd⟩:=Fu.ex
 refine Br (k:=0) lk hcd JT (fun vs H Q E h=>?_) fun A outer s H vs Q E hr h=>?_
 ·obtain ⟨p,dx,m,c,rfl,_⟩:=h
  rfl
 ·obtain ⟨p,dx,m,c,rfl,hp,k⟩:=h
  have hu:=dR hr
  have mk:yr (fu (vB P w) P w K mg base ["self", "most", "colours"] "House.__init__" (ao qY) f cdv A outer s H E) E:=⟨hr.hd,fun pins σ H1 s1 h1 e cls vs I hm hE=>yz I hm hE⟩
  refine ⟨_,fX (yA (ic (oR (E:=E0) (gL hu) (gL hu) (hV T.i_LEAST_NUMBERS) (ah 1 (pv 1)) (hV T.i_MOST_NUMBERS))) (fS (pG mk O)) nW)
   (fX (yA (ic (oR (E:=E0) (gL hu) (gL hu) (hV T.i_LEAST_COLOURS) (ah 2 (pv 2)) (hV T.i_MOST_COLOURS))) (fS (pG mk O)) nW)
   (fX (tO (pv 0) (pv 1) rfl) (fS (tO (pv 0) (pv 2) rfl)))),?_⟩
  refine ⟨[],[],_,.ok (!(decide (3<=m)&&decide (m<=13))),xp,?_,fun H1 s1=>?_⟩
  ·unfold gP zD
   by_cases h3:3<=m <;> by_cases h13:m<=13 <;> simp [eC,af,rt,bd,op,bI,h3,h13]
  by_cases g1:(decide (3<=m)&&decide (m<=13))=true
  ·rw [g1]
   refine uM ?_
   refine ⟨[],[],_,.ok (!(decide (1<=c)&&decide (c<=4))),xp,?_,fun H2 s2=>?_⟩
   ·unfold gP zD
    by_cases h3:1<=c <;> by_cases h13:c<=4 <;> simp [eC,af,rt,bd,op,bI,h3,h13]
   have kk:=k H2 (s1.trans s2)
   by_cases g2:(decide (1<=c)&&decide (c<=4))=true
   ·rw [g2]
    refine uM ?_
    rw [if_pos (by unfold good; rw [g1,g2]; rfl)] at kk
    refine ⟨_,rfl,_,rfl,p,C,dx,[],rfl,s2 _ _ (s1 _ _ hp),T.cl,T.n_most,0x3,?_⟩
    exact ⟨_,rfl,_,rfl,p,C,dx,_,rfl,aN,T.cl,T.n_colours,by show 1<1000; decide,kk⟩
   ·have g2':(decide (1<=c)&&decide (c<=4))=false:=by simpa using g2
    rw [g2']
    refine vb ?_
    rw [if_neg (by unfold good; rw [g1,g2']; simp)] at kk
    exact kk
  ·have g1':(decide (3<=m)&&decide (m<=13))=false:=by simpa using g1
   rw [g1']
   refine vb ?_
   have kk:=k H1 s1
   rw [if_neg (by unfold good; rw [g1']; simp)] at kk
   exact kk
end
noncomputable abbrev jU (x y:Str) (st:Stmt) (ps:List Str):Prop:=∀(kV doc pm:Value) (an:Option Addr) (cdv ct:Value) (us:List Value),us.length=ps.length->bindArgs (PySem.W.fnOf x y (hR st) (eS st) (ao st) .none kV doc pm an cdv ct) ⟨us,[]⟩=pure (ps.zip us)
theorem cE {K:Kd} {h:Heap} {mg:Str->Option Value} {x:Str} {st:Stmt} {ps:List Str} {f:Addr} {oc:Value} {od an:Option Addr} {osl:Array (Option Value)} {kV doc pm cdv ct:Value} (X:K.In h) (G:h.Ns mainGlobals mg) (a:PySem.W.nsIn K mainGlobals x=some (some (.ref f)))
  (l:K.lookup f=some ⟨oc,od,.func (PySem.W.fnOf x x (hR st) (eS st) (ao st) .none kV doc pm an cdv ct),osl⟩) (c:PySem.W.codeIn K cdv x=true) (k:PySem.W.keepIn K (.ref f)=true)
  (hb:jU x x st ps):Df K mg x st ps:=
 ⟨f,_,fD l c k,PySem.W.mg_of X G a,(fD l c k).binds hb⟩
theorem jR {K:Kd} {h:Heap} {mg:Str->Option Value} {x:Str} {i:Int} {t:Tok} (X:K.In h) (G:h.Ns mainGlobals mg) (a:PySem.W.nsIn K mainGlobals x=some (some (.int i t))):∃t,mg x=some (.int i t):=⟨t,PySem.W.mg_of X G a⟩
theorem AN {K:Kd} {h:Heap} {mg:Str->Option Value} {x:Str} {C:Addr} (X:K.In h) (G:h.Ns mainGlobals mg) (a:PySem.W.nsIn K mainGlobals x=some (some (.ref C))) (e:PySem.W.excIn K C [.type "ValueError",.type "Exception",.type "BaseException",.type "object"] "ValueError.__new__" = true):Xc K mg x C:=⟨PySem.W.mg_of X G a,e⟩
theorem wM:jU "is_tile" "is_tile" iE ["house", "tile"]:=fun _ _ _ _ _ _ us hl=>by obtain ⟨a0,a1,rfl⟩:=vo hl; rfl
theorem sx:jU "all_tiles" "all_tiles" eJ ["house"]:=fun _ _ _ _ _ _ us hl=>by obtain ⟨a0,rfl⟩:=qD hl; rfl
theorem pH:jU "is_in_order" "is_in_order" dm ["row"]:=fun _ _ _ _ _ _ us hl=>by obtain ⟨a0,rfl⟩:=qD hl; rfl
theorem vM:jU "is_hand" "is_hand" gv ["house", "hand", "jokers"]:=fun _ _ _ _ _ _ us hl=>by obtain ⟨a0,a1,a2,rfl⟩:=kS hl; rfl
theorem qC:jU "check_hand" "check_hand" eU ["house", "hand", "jokers"]:=fun _ _ _ _ _ _ us hl=>by obtain ⟨a0,a1,a2,rfl⟩:=kS hl; rfl
theorem zl:jU "is_run" "is_run" jF ["house", "colour", "first", "size"]:=fun _ _ _ _ _ _ us hl=>by obtain ⟨a0,a1,a2,a3,rfl⟩:=DO hl; rfl
theorem uV:jU "is_group" "is_group" eg ["house", "number", "colours"]:=fun _ _ _ _ _ _ us hl=>by obtain ⟨a0,a1,a2,rfl⟩:=kS hl; rfl
theorem vE:jU "is_meld" "is_meld" iG ["house", "meld"]:=fun _ _ _ _ _ _ us hl=>by obtain ⟨a0,a1,rfl⟩:=vo hl; rfl
theorem uk:jU "tiles_of" "tiles_of" eB ["house", "meld"]:=fun _ _ _ _ _ _ us hl=>by obtain ⟨a0,a1,rfl⟩:=vo hl; rfl
theorem me:jU "colour_choices" "colour_choices" bJ ["house"]:=fun _ _ _ _ _ _ us hl=>by obtain ⟨a0,rfl⟩:=qD hl; rfl
theorem qH:jU "all_groups" "all_groups" dN ["house"]:=fun _ _ _ _ _ _ us hl=>by obtain ⟨a0,rfl⟩:=qD hl; rfl
theorem uT:jU "all_runs" "all_runs" fO ["house"]:=fun _ _ _ _ _ _ us hl=>by obtain ⟨a0,rfl⟩:=qD hl; rfl
theorem AB:jU "melds" "melds" lZ ["house"]:=fun _ _ _ _ _ _ us hl=>by obtain ⟨a0,rfl⟩:=qD hl; rfl
theorem Bx:jU "total" "total" kj ["tiles"]:=fun _ _ _ _ _ _ us hl=>by obtain ⟨a0,rfl⟩:=qD hl; rfl
theorem vU:jU "lay_out" "lay_out" iz ["tiles", "jokers", "wanted"]:=fun _ _ _ _ _ _ us hl=>by obtain ⟨a0,a1,a2,rfl⟩:=kS hl; rfl
theorem kP:jU "tiles_of_laying" "tiles_of_laying" cq ["house", "laying"]:=fun _ _ _ _ _ _ us hl=>by obtain ⟨a0,a1,rfl⟩:=vo hl; rfl
theorem Cv:jU "left" "left" pP ["house", "hand", "jokers", "laying"]:=fun _ _ _ _ _ _ us hl=>by obtain ⟨a0,a1,a2,a3,rfl⟩:=DO hl; rfl
theorem lF:jU "playable_melds" "playable_melds" bM ["house", "hand", "jokers"]:=fun _ _ _ _ _ _ us hl=>by obtain ⟨a0,a1,a2,rfl⟩:=kS hl; rfl
theorem nK:jU "first_laying" "first_laying" dD ["table", "playable", "hand", "jokers"]:=fun _ _ _ _ _ _ us hl=>by obtain ⟨a0,a1,a2,a3,rfl⟩:=DO hl; rfl
theorem C6:jU "best" "best" pD ["house", "hand", "jokers"]:=fun _ _ _ _ _ _ us hl=>by obtain ⟨a0,a1,a2,rfl⟩:=kS hl; rfl
theorem uI:jU "goes_out" "goes_out" gS ["house", "hand", "jokers"]:=fun _ _ _ _ _ _ us hl=>by obtain ⟨a0,a1,a2,rfl⟩:=kS hl; rfl
theorem w5:jU "helpers" "helpers" fN ["house", "hand", "jokers"]:=fun _ _ _ _ _ _ us hl=>by obtain ⟨a0,a1,a2,rfl⟩:=kS hl; rfl
theorem nO:jU "_law_cell_at" "_law_cell_at" dC ["script", "k"]:=fun _ _ _ _ _ _ us hl=>by obtain ⟨a0,a1,rfl⟩:=vo hl; rfl
theorem uj:jU "_law_mix" "_law_mix" gR ["cell", "k", "many"]:=fun _ _ _ _ _ _ us hl=>by obtain ⟨a0,a1,a2,rfl⟩:=kS hl; rfl
theorem mZ:jU "_law_house_by" "_law_house_by" dc ["script"]:=fun _ _ _ _ _ _ us hl=>by obtain ⟨a0,rfl⟩:=qD hl; rfl
theorem nM:jU "_law_trimmed" "_law_trimmed" dz ["tiles", "limit"]:=fun _ _ _ _ _ _ us hl=>by obtain ⟨a0,a1,rfl⟩:=vo hl; rfl
theorem nV:jU "_law_hand_by" "_law_hand_by" cf ["script", "start", "most", "colours", "limit"]:=fun _ _ _ _ _ _ us hl=>by obtain ⟨a0,a1,a2,a3,a4,rfl⟩:=IP hl; rfl
theorem lB:jU "tiles_by_least" "tiles_by_least" cM ["playable"]:=fun _ _ _ _ _ _ us hl=>by obtain ⟨a0,rfl⟩:=qD hl; rfl
theorem Es:jU "ways" "Table.ways" iL ["self", "tiles", "jokers"]:=fun _ _ _ _ _ _ us hl=>by obtain ⟨a0,a1,a2,rfl⟩:=kS hl; rfl
theorem qE:jU "least_left" "Table.least_left" dP ["self", "tiles", "jokers"]:=fun _ _ _ _ _ _ us hl=>by obtain ⟨a0,a1,a2,rfl⟩:=kS hl; rfl
theorem nN:jU "search_least" "Table.search_least" cJ ["self", "tiles", "jokers"]:=fun _ _ _ _ _ _ us hl=>by obtain ⟨a0,a1,a2,rfl⟩:=kS hl; rfl
theorem yT:jU "covers" "Table.covers" iw ["self", "tiles", "jokers"]:=fun _ _ _ _ _ _ us hl=>by obtain ⟨a0,a1,a2,rfl⟩:=kS hl; rfl
theorem Ga:jU "__init__" "Table.__init__" yK ["self", "playable"]:=fun _ _ _ _ _ _ us hl=>by obtain ⟨a0,a1,rfl⟩:=vo hl; rfl
theorem uU.none {P:Program} {w:World} {K:Kd} {mg:Str->Option Value} {base:Heap} {C:Addr} {m ql:Str} {st:Stmt} {ps:List Str} {k n:Nat} (D:uU K C m ql st ps) (no:∀v u:V,([("by_least",v),("known",u)]:List (Str×V)).lookup m=none):HasM P w K mg base k C m n (fun _=>none):=by
 obtain ⟨f,fd,Fu,hm,hb⟩:=D
 exact ⟨⟨f,fd,ps,⟨fun vs H Q E ⟨_,_,_,_,_,_,e,_⟩=>(nomatch e),fun A outer s H args us vs Q E _ _ _ _ ⟨_,_,_,_,_,_,e,_⟩=>(nomatch e)⟩,hm,hb⟩,no⟩
theorem An {P:Program} {w:World} {K:Kd} {mg:Str->Option Value} {base:Heap} {C CT J9 Ka Kb Kc:Addr} (T:Tx K mg C) (R:Rx K mg J9 Ka Kb Kc) (TT:Tt K CT) (Dw:uU K CT "ways" "Table.ways" iL ["self", "tiles", "jokers"]) (Dl:uU K CT "least_left" "Table.least_left" dP ["self", "tiles", "jokers"]) (Ds:uU K CT "search_least" "Table.search_least" cJ ["self", "tiles", "jokers"]) (hlo:Has P w K mg base 1 "lay_out" 3 bx):∀n:Nat,HasM P w K mg base (2*n+11) CT "least_left" 3 (kq P w CT n)
 |0=>(bO (k:=0) (m_search_least:=fun _=>none) T R TT Dl (Ds.none (pz 0x2 0x2))).imp (J5 _) fun _ _ h=>Et h
 |n+1=>by
  have h1:=(An T R TT Dw Dl Ds hlo n).imp (k:=2*n+1+10) 0x1 fun _ _ h=>h
  have hw:=(mX (k:=2*n) T R TT Dw hlo).imp (k:=2*n+1+10) 0x1 fun _ _ h=>h
  have h2:=(gT (k:=2*n+1) T R TT Ds h1 hw).imp (k:=2*n+2+10) 0x1 fun _ _ h=>DD h
  exact (bO (k:=2*n+2) T R TT Dl h2).imp 0x1 fun _ _ h=>Dy h
theorem kN {P:Program} {w:World} {K:Kd} {mg:Str->Option Value} {base:Heap} {C CT J9 Ka Kb Kc:Addr} (T:Tx K mg C) (R:Rx K mg J9 Ka Kb Kc) (TT:Tt K CT) (Dw:uU K CT "ways" "Table.ways" iL ["self", "tiles", "jokers"]) (Dc:uU K CT "covers" "Table.covers" iw ["self", "tiles", "jokers"]) (hlo:Has P w K mg base 1 "lay_out" 3 bx):∀n:Nat,HasM P w K mg base (n+11) CT "covers" 3 (iU P w CT n)
 |0=>(fU (k:=0) (m_ways:=fun _=>none) (m_covers:=fun _=>none) T R TT Dc (Dw.none (pz 0x2 0x2)) (Dc.none (pz 0x2 0x2))).imp (J5 _) fun _ _ h=>DY h
 |n+1=>by
  have h1:=(kN T R TT Dw Dc hlo n).imp (k:=n+1+10) 0x1 fun _ _ h=>h
  have hw:=(mX (k:=n) T R TT Dw hlo).imp (k:=n+1+10) 0x1 fun _ _ h=>h
  exact (fU (k:=n+1) T R TT Dc hw h1).imp 0x1 fun _ _ h=>De h
theorem Ed:jU "__init__" "House.__init__" qY ["self", "most", "colours"]:=fun _ _ _ _ _ _ us hl=>by obtain ⟨a0,a1,a2,rfl⟩:=kS hl; rfl
noncomputable def xS (K:Kd):Sp:=fun vs H Q _=>∃(a:Addr) (ns:List Int),vs=[.ref a]/\gg K H a (ns.map V.int)/\ns.length<=63/\∀H',Q (.bl true) H'
theorem FQ {P:Program} {w:World} {K:Kd} {mg:Str->Option Value} {base:Heap} {C J9 Ka Kb Kc fI:Addr} {fdI:FuncData} {CT fT:Addr} {fdT:FuncData} (TT:Tt K CT) (hTM:Mk K CT fT) (FT:Fun K "__init__" "Table.__init__" yK fT fdT) (hCT:mg "Table" = some (.ref CT)) (DM0:uU K CT "ways" "Table.ways" iL ["self", "tiles", "jokers"]) (DM1:uU K CT "least_left" "Table.least_left" dP ["self", "tiles", "jokers"]) (DM2:uU K CT "search_least" "Table.search_least" cJ ["self", "tiles", "jokers"]) (DM3:uU K CT "covers" "Table.covers" iw ["self", "tiles", "jokers"]) (T:Tx K mg C) (R:Rx K mg J9 Ka Kb Kc) (OB:Xc K mg "BadHouse" Ka) (hM:Mk K C fI) (FI:Fun K "__init__" "House.__init__" qY fI fdI) (hC:mg "House" = some (.ref C))
  (D0:Df K mg "is_tile" iE ["house", "tile"]) (D1:Df K mg "all_tiles" eJ ["house"]) (D2:Df K mg "is_in_order" dm ["row"]) (D3:Df K mg "is_hand" gv ["house", "hand", "jokers"]) (D4:Df K mg "check_hand" eU ["house", "hand", "jokers"]) (D5:Df K mg "is_run" jF ["house", "colour", "first", "size"]) (D6:Df K mg "is_group" eg ["house", "number", "colours"]) (D7:Df K mg "is_meld" iG ["house", "meld"]) (D8:Df K mg "tiles_of" eB ["house", "meld"]) (D9:Df K mg "colour_choices" bJ ["house"]) (D10:Df K mg "all_groups" dN ["house"]) (D11:Df K mg "all_runs" fO ["house"]) (D12:Df K mg "melds" lZ ["house"]) (D13:Df K mg "total" kj ["tiles"]) (D14:Df K mg "lay_out" iz ["tiles", "jokers", "wanted"]) (D15:Df K mg "tiles_of_laying" cq ["house", "laying"]) (D16:Df K mg "left" pP ["house", "hand", "jokers", "laying"]) (D17:Df K mg "playable_melds" bM ["house", "hand", "jokers"]) (D18:Df K mg "first_laying" dD ["table", "playable", "hand", "jokers"]) (D19:Df K mg "best" pD ["house", "hand", "jokers"]) (D20:Df K mg "goes_out" gS ["house", "hand", "jokers"]) (D21:Df K mg "helpers" fN ["house", "hand", "jokers"]) (D22:Df K mg "_law_cell_at" dC ["script", "k"]) (D23:Df K mg "_law_mix" gR ["cell", "k", "many"]) (D24:Df K mg "_law_house_by" dc ["script"]) (D25:Df K mg "_law_trimmed" dz ["tiles", "limit"]) (D26:Df K mg "_law_hand_by" cf ["script", "start", "most", "colours", "limit"]) (D28:Df K mg "tiles_by_least" cM ["playable"]) {f:Addr} {fd:FuncData} (Fu:Fun K "law" "law" oU f fd):FnOk P w K mg base so 63 f fd ["script"] (Eb 1 (rU P w K C CT J9 Ka Kb (kq P w CT 12) (iU P w CT 12))):=by
 have h_House:Jr P w K mg base C Ka:=⟨⟨fI,fdI,_,hM,CW FI T OB,FI.binds Ed,hC⟩⟩
 have h0:=eF (P:=P) (w:=w) (base:=base) T R D0
 have h1:=jM (P:=P) (w:=w) (base:=base) T R D1
 have h2:=dY (P:=P) (w:=w) (base:=base) T R D2
 have h3:=mP (P:=P) (w:=w) (base:=base) T R D3  h0 h2
 have h4:=bU (P:=P) (w:=w) (base:=base) T R D4  h3
 have h5:=pM (P:=P) (w:=w) (base:=base) T R D5  h0
 have h6:=lj (P:=P) (w:=w) (base:=base) T R D6  h0
 have h7:=mL (P:=P) (w:=w) (base:=base) T R D7  h5 h6
 have h8:=gJ (P:=P) (w:=w) (base:=base) T R D8  h7
 have h9:=fE (P:=P) (w:=w) (base:=base) T R D9
 have h10:=iP (P:=P) (w:=w) (base:=base) T R D10  h9
 have h11:=ly (P:=P) (w:=w) (base:=base) T R D11
 have h12:=sO (P:=P) (w:=w) (base:=base) T R D12  h10 h11
 have h13:=sk (P:=P) (w:=w) (base:=base) T R D13
 have h14:=dk (P:=P) (w:=w) (base:=base) T R D14
 have h15:=eO (P:=P) (w:=w) (base:=base) T R D15  h8 h2
 have h16:=w9 (P:=P) (w:=w) (base:=base) T R D16  h4 h15 h14
 have h17:=bL (P:=P) (w:=w) (base:=base) T R D17  h12 h8 h14
 have hT0:=fL (P:=P) (w:=w) (base:=base) (J9:=J9) (Ka:=Ka) (Kb:=Kb) (Kc:=Kc) T D28
 have hTab:∀fM UM,HsT P w K mg base "Table" CT 2 fM UM:=fun fM UM=>⟨⟨fT,fdT,_,hTM,Fd TT hT0 FT,FT.binds Ga,hCT⟩⟩
 have hM_least_left:=(An (P:=P) (w:=w) (base:=base) T R TT DM0 DM1 DM2 h14 12).imp (k:=60) 0x3 fun _ _ h=>h
 have hM_covers:=(kN (P:=P) (w:=w) (base:=base) T R TT DM0 DM3 h14 12).imp (k:=60) 0x3 fun _ _ h=>h
 have h18:=gN (P:=P) (w:=w) (base:=base) T R D18 TT hM_least_left h14
 have h19:=wW (P:=P) (w:=w) (base:=base) T R D19 TT hTab hM_least_left h4 h17 h13 h18
 have h20:=gA (P:=P) (w:=w) (base:=base) T R D20 TT hTab hM_covers h4 h17
 have h21:=j6 (P:=P) (w:=w) (base:=base) T R D21 TT hTab hM_covers h4 h17 h1
 have h22:=bo (P:=P) (w:=w) (base:=base) T R D22
 have h23:=ba (P:=P) (w:=w) (base:=base) T R D23
 have h24:=fZ (P:=P) (w:=w) (base:=base) T R D24  h22 h23
 have h25:=gM (P:=P) (w:=w) (base:=base) T R D25
 have h26:=gE (P:=P) (w:=w) (base:=base) T R D26  h22 h23 h25
 exact Fw T R Fu h_House h24 h26 h22 h19 h16 h20 h21 h23
theorem Ge {P:Program} {w:World} {K:Kd} {mg:Str->Option Value} {base:Heap} {C CT J9 Ka Kb Kc:Addr} {k:Nat} {f:Addr} {fd:FuncData} {ps:List Str} (Fc:∀ns:List Int,ns.length<=63->rU P w K C CT J9 Ka Kb (kq P w CT 12) (iU P w CT 12) [.scr K ns]=rt (.d (.bool true))) (F:FnOk P w K mg base so k f fd ps (Eb 1 (rU P w K C CT J9 Ka Kb (kq P w CT 12) (iU P w CT 12)))):FnOk P w K mg base so k f fd ps (xS K):=
 F.imp fun vs H Q E ⟨a,ns,ev,hS,hl,hq⟩=>by
  subst ev
  refine ⟨rfl,[],[.scr K ns],_,fun a ha=>(nomatch ha),.cons ⟨a,rfl,hS.imp (fun z=>⟨nofun,z⟩) fun z=>z⟩ .nil,Fc ns hl,fun v H' _ rv=>?_⟩
  cases rv
  exact hq H'
local macro_rules|`($k <<< $x <<< $v)=>`(PySem.W.nsIn $k mainGlobals $x=some $v)
local macro_rules|`([$k,$f,$x,$y,$s,$a,$b,$c,$d,$e,$g,$h,$i,$j])=>`(List.lookup $f $k=some ⟨$a,$b,.func (PySem.W.fnOf $x $y (hR $s) (eS $s) (ao $s) .none $c $d $e $g $h $i),$j⟩)
local macro_rules|`($k >>> $c >>> $x)=>`(PySem.W.codeIn $k $c $x=true)
local macro_rules|`($k ||| $f)=>`(PySem.W.keepIn $k (.ref $f)=true)
set_option maxHeartbeats 3000000 in
theorem all_mk {l:PySem.W.OpenLaw} {w:World} {K:Kd} {h:Heap} {mg:Str->Option Value} {fa C J9 Ka Kb Kc CT fT gM0 gM1 gM2 gM3 fI f0 f1 f2 f3 f4 f5 f6 f7 f8 f9 f10 f11 f12 f13 f14 f15 f16 f17 f18 f19 f20 f21 f22 f23 f24 f25 f26 f27 f28:Addr} {d0 n0 d1 n1 d2 n2 d3 n3 d4 n4 d5 n5 d6 n6 d7 n7 d8 n8 d9 n9 d10 n10 d11 n11 d12 n12 d13 n13 d14 n14 d15 n15 d16 n16 d17 n17 d18 n18 d19 n19 d20 n20 d21 n21 d22 n22 d23 n23 d24 n24 d25 n25 d26 n26 d27 n27 d28 n28 dI nI dM0 nM0 dM1 nM1 dM2 nM2 dM3 nM3 dT nT:Option Addr} {s0 s1 s2 s3 s4 s5 s6 s7 s8 s9 s10 s11 s12 s13 s14 s15 s16 s17 s18 s19 s20 s21 s22 s23 s24 s25 s26 s27 s28 sI sM0 sM1 sM2 sM3 sT:Array (Option Value)} {o0 v0 e0 p0 m0 t0 o1 v1 e1 p1 m1 t1 o2 v2 e2 p2 m2 t2 o3 v3 e3 p3 m3 t3 o4 v4 e4 p4 m4 t4 o5 v5 e5 p5 m5 t5 o6 v6 e6 p6 m6 t6 o7 v7 e7 p7 m7 t7 o8 v8 e8 p8 m8 t8 o9 v9 e9 p9 m9 t9 o10 v10 e10 p10 m10 t10 o11 v11 e11 p11 m11 t11 o12 v12 e12 p12 m12 t12 o13 v13 e13 p13 m13 t13 o14 v14 e14 p14 m14 t14 o15 v15 e15 p15 m15 t15 o16 v16 e16 p16 m16 t16 o17 v17 e17 p17 m17 t17 o18 v18 e18 p18 m18 t18 o19 v19 e19 p19 m19 t19 o20 v20 e20 p20 m20 t20 o21 v21 e21 p21 m21 t21 o22 v22 e22 p22 m22 t22 o23 v23 e23 p23 m23 t23 o24 v24 e24 p24 m24 t24 o25 v25 e25 p25 m25 t25 o26 v26 e26 p26 m26 t26 o27 v27 e27 p27 m27 t27 o28 v28 e28 p28 m28 t28 oI vI eI pI mI tI oM0 vM0 eM0 pM0 mM0 tM0 oM1 vM1 eM1 pM1 mM1 tM1 oM2 vM2 eM2 pM2 mM2 tM2 oM3 vM3 eM3 pM3 mM3 tM3 oT vT eT pT mT tT:Value} {t_LEAST_NUMBERS t_MOST_NUMBERS t_LEAST_COLOURS t_MOST_COLOURS t_MOST_TILES t_MOST_ALIKE t_MOST_JOKERS t_LEAST_SIZE:Tok} (X:K.In h) (G:h.Ns mainGlobals mg) (hfa:mg "law" = some (.ref fa))
  (A0:K <<< "is_tile" <<< (some (.ref f0)))
  (L0:[K,f0, "is_tile", "is_tile",iE,o0,d0,v0,e0,p0,n0,m0,t0,s0])
  (c0:K >>> m0 >>> "is_tile")
  (k0:K ||| f0)
  (A1:K <<< "all_tiles" <<< (some (.ref f1)))
  (L1:[K,f1, "all_tiles", "all_tiles",eJ,o1,d1,v1,e1,p1,n1,m1,t1,s1])
  (c1:K >>> m1 >>> "all_tiles")
  (k1:K ||| f1)
  (A2:K <<< "is_in_order" <<< (some (.ref f2)))
  (L2:[K,f2, "is_in_order", "is_in_order",dm,o2,d2,v2,e2,p2,n2,m2,t2,s2])
  (c2:K >>> m2 >>> "is_in_order")
  (k2:K ||| f2)
  (A3:K <<< "is_hand" <<< (some (.ref f3)))
  (L3:[K,f3, "is_hand", "is_hand",gv,o3,d3,v3,e3,p3,n3,m3,t3,s3])
  (c3:K >>> m3 >>> "is_hand")
  (k3:K ||| f3)
  (A4:K <<< "check_hand" <<< (some (.ref f4)))
  (L4:[K,f4, "check_hand", "check_hand",eU,o4,d4,v4,e4,p4,n4,m4,t4,s4])
  (c4:K >>> m4 >>> "check_hand")
  (k4:K ||| f4)
  (A5:K <<< "is_run" <<< (some (.ref f5)))
  (L5:[K,f5, "is_run", "is_run",jF,o5,d5,v5,e5,p5,n5,m5,t5,s5])
  (c5:K >>> m5 >>> "is_run")
  (k5:K ||| f5)
  (A6:K <<< "is_group" <<< (some (.ref f6)))
  (L6:[K,f6, "is_group", "is_group",eg,o6,d6,v6,e6,p6,n6,m6,t6,s6])
  (c6:K >>> m6 >>> "is_group")
  (k6:K ||| f6)
  (A7:K <<< "is_meld" <<< (some (.ref f7)))
  (L7:[K,f7, "is_meld", "is_meld",iG,o7,d7,v7,e7,p7,n7,m7,t7,s7])
  (c7:K >>> m7 >>> "is_meld")
  (k7:K ||| f7)
  (A8:K <<< "tiles_of" <<< (some (.ref f8)))
  (L8:[K,f8, "tiles_of", "tiles_of",eB,o8,d8,v8,e8,p8,n8,m8,t8,s8])
  (c8:K >>> m8 >>> "tiles_of")
  (k8:K ||| f8)
  (A9:K <<< "colour_choices" <<< (some (.ref f9)))
  (L9:[K,f9, "colour_choices", "colour_choices",bJ,o9,d9,v9,e9,p9,n9,m9,t9,s9])
  (c9:K >>> m9 >>> "colour_choices")
  (k9:K ||| f9)
  (A10:K <<< "all_groups" <<< (some (.ref f10)))
  (L10:[K,f10, "all_groups", "all_groups",dN,o10,d10,v10,e10,p10,n10,m10,t10,s10])
  (c10:K >>> m10 >>> "all_groups")
  (k10:K ||| f10)
  (A11:K <<< "all_runs" <<< (some (.ref f11)))
  (L11:[K,f11, "all_runs", "all_runs",fO,o11,d11,v11,e11,p11,n11,m11,t11,s11])
  (c11:K >>> m11 >>> "all_runs")
  (k11:K ||| f11)
  (A12:K <<< "melds" <<< (some (.ref f12)))
  (L12:[K,f12, "melds", "melds",lZ,o12,d12,v12,e12,p12,n12,m12,t12,s12])
  (c12:K >>> m12 >>> "melds")
  (k12:K ||| f12)
  (A13:K <<< "total" <<< (some (.ref f13)))
  (L13:[K,f13, "total", "total",kj,o13,d13,v13,e13,p13,n13,m13,t13,s13])
  (c13:K >>> m13 >>> "total")
  (k13:K ||| f13)
  (A14:K <<< "lay_out" <<< (some (.ref f14)))
  (L14:[K,f14, "lay_out", "lay_out",iz,o14,d14,v14,e14,p14,n14,m14,t14,s14])
  (c14:K >>> m14 >>> "lay_out")
  (k14:K ||| f14)
  (A15:K <<< "tiles_of_laying" <<< (some (.ref f15)))
  (L15:[K,f15, "tiles_of_laying", "tiles_of_laying",cq,o15,d15,v15,e15,p15,n15,m15,t15,s15])
  (c15:K >>> m15 >>> "tiles_of_laying")
  (k15:K ||| f15)
  (A16:K <<< "left" <<< (some (.ref f16)))
  (L16:[K,f16, "left", "left",pP,o16,d16,v16,e16,p16,n16,m16,t16,s16])
  (c16:K >>> m16 >>> "left")
  (k16:K ||| f16)
  (A17:K <<< "playable_melds" <<< (some (.ref f17)))
  (L17:[K,f17, "playable_melds", "playable_melds",bM,o17,d17,v17,e17,p17,n17,m17,t17,s17])
  (c17:K >>> m17 >>> "playable_melds")
  (k17:K ||| f17)
  (A18:K <<< "first_laying" <<< (some (.ref f18)))
  (L18:[K,f18, "first_laying", "first_laying",dD,o18,d18,v18,e18,p18,n18,m18,t18,s18])
  (c18:K >>> m18 >>> "first_laying")
  (k18:K ||| f18)
  (A19:K <<< "best" <<< (some (.ref f19)))
  (L19:[K,f19, "best", "best",pD,o19,d19,v19,e19,p19,n19,m19,t19,s19])
  (c19:K >>> m19 >>> "best")
  (k19:K ||| f19)
  (A20:K <<< "goes_out" <<< (some (.ref f20)))
  (L20:[K,f20, "goes_out", "goes_out",gS,o20,d20,v20,e20,p20,n20,m20,t20,s20])
  (c20:K >>> m20 >>> "goes_out")
  (k20:K ||| f20)
  (A21:K <<< "helpers" <<< (some (.ref f21)))
  (L21:[K,f21, "helpers", "helpers",fN,o21,d21,v21,e21,p21,n21,m21,t21,s21])
  (c21:K >>> m21 >>> "helpers")
  (k21:K ||| f21)
  (A22:K <<< "_law_cell_at" <<< (some (.ref f22)))
  (L22:[K,f22, "_law_cell_at", "_law_cell_at",dC,o22,d22,v22,e22,p22,n22,m22,t22,s22])
  (c22:K >>> m22 >>> "_law_cell_at")
  (k22:K ||| f22)
  (A23:K <<< "_law_mix" <<< (some (.ref f23)))
  (L23:[K,f23, "_law_mix", "_law_mix",gR,o23,d23,v23,e23,p23,n23,m23,t23,s23])
  (c23:K >>> m23 >>> "_law_mix")
  (k23:K ||| f23)
  (A24:K <<< "_law_house_by" <<< (some (.ref f24)))
  (L24:[K,f24, "_law_house_by", "_law_house_by",dc,o24,d24,v24,e24,p24,n24,m24,t24,s24])
  (c24:K >>> m24 >>> "_law_house_by")
  (k24:K ||| f24)
  (A25:K <<< "_law_trimmed" <<< (some (.ref f25)))
  (L25:[K,f25, "_law_trimmed", "_law_trimmed",dz,o25,d25,v25,e25,p25,n25,m25,t25,s25])
  (c25:K >>> m25 >>> "_law_trimmed")
  (k25:K ||| f25)
  (A26:K <<< "_law_hand_by" <<< (some (.ref f26)))
  (L26:[K,f26, "_law_hand_by", "_law_hand_by",cf,o26,d26,v26,e26,p26,n26,m26,t26,s26])
  (c26:K >>> m26 >>> "_law_hand_by")
  (k26:K ||| f26)
  (A27:K <<< "law" <<< (some (.ref f27)))
  (L27:[K,f27, "law", "law",oU,o27,d27,v27,e27,p27,n27,m27,t27,s27])
  (c27:K >>> m27 >>> "law")
  (k27:K ||| f27)
  (A28:K <<< "tiles_by_least" <<< (some (.ref f28)))
  (L28:[K,f28, "tiles_by_least", "tiles_by_least",cM,o28,d28,v28,e28,p28,n28,m28,t28,s28])
  (c28:K >>> m28 >>> "tiles_by_least")
  (k28:K ||| f28)
  (aCT:PySem.W.nsIn K mainGlobals "Table" = some (some (.ref CT)))
  (aM0:PySem.W.findIn K (.ref CT) "ways" = some (some (.ref gM0)))
  (iM0:PySem.W.isFn K (.ref gM0)=true)
  (lM0:[K,gM0, "ways", "Table.ways",iL,oM0,dM0,vM0,eM0,pM0,nM0,mM0,tM0,sM0])
  (cM0:K >>> mM0 >>> "Table.ways")
  (kM0:K ||| gM0)
  (aM1:PySem.W.findIn K (.ref CT) "least_left" = some (some (.ref gM1)))
  (iM1:PySem.W.isFn K (.ref gM1)=true)
  (lM1:[K,gM1, "least_left", "Table.least_left",dP,oM1,dM1,vM1,eM1,pM1,nM1,mM1,tM1,sM1])
  (cM1:K >>> mM1 >>> "Table.least_left")
  (kM1:K ||| gM1)
  (aM2:PySem.W.findIn K (.ref CT) "search_least" = some (some (.ref gM2)))
  (iM2:PySem.W.isFn K (.ref gM2)=true)
  (lM2:[K,gM2, "search_least", "Table.search_least",cJ,oM2,dM2,vM2,eM2,pM2,nM2,mM2,tM2,sM2])
  (cM2:K >>> mM2 >>> "Table.search_least")
  (kM2:K ||| gM2)
  (aM3:PySem.W.findIn K (.ref CT) "covers" = some (some (.ref gM3)))
  (iM3:PySem.W.isFn K (.ref gM3)=true)
  (lM3:[K,gM3, "covers", "Table.covers",iw,oM3,dM3,vM3,eM3,pM3,nM3,mM3,tM3,sM3])
  (cM3:K >>> mM3 >>> "Table.covers")
  (kM3:K ||| gM3)
  (aTI:PySem.W.findIn K (.ref CT) "__init__" = some (some (.ref fT)))
  (iTI:PySem.W.isFn K (.ref fT)=true)
  (lTI:[K,fT, "__init__", "Table.__init__",yK,oT,dT,vT,eT,pT,nT,mT,tT,sT])
  (cTI:K >>> mT >>> "Table.__init__")
  (kTI:K ||| fT)
  (pgT:PySem.W.plainGet K CT Str.empty=true)
  (hdT:PySem.W.hasDictIn K CT=true)
  (poT:PySem.W.plainOver K CT=true)
  (saT:PySem.W.findIn K (.ref CT) "__setattr__" = some (some (.builtin "object.__setattr__")))
  (mkT_:PySem.W.makesIn K CT=true)
  (kcT:PySem.W.keepIn K (.ref CT)=true)
  (nT_by_least:PySem.W.findIn K (.ref CT) "by_least" = some none)
  (nT_known:PySem.W.findIn K (.ref CT) "known" = some none)
  (aC:PySem.W.nsIn K mainGlobals "House" = some (some (.ref C)))
  (aI:PySem.W.findIn K (.ref C) "__init__" = some (some (.ref fI)))
  (iI:PySem.W.isFn K (.ref fI)=true)
  (lI:[K,fI, "__init__", "House.__init__",qY,oI,dI,vI,eI,pI,nI,mI,tI,sI])
  (cI:K >>> mI >>> "House.__init__")
  (kI:K ||| fI)
  (pg:PySem.W.plainGet K C Str.empty=true)
  (hd:PySem.W.hasDictIn K C=true)
  (po:PySem.W.plainOver K C=true)
  (sa:PySem.W.findIn K (.ref C) "__setattr__" = some (some (.builtin "object.__setattr__")))
  (mk:PySem.W.makesIn K C=true)
  (kc:PySem.W.keepIn K (.ref C)=true)
  (n_colours:PySem.W.findIn K (.ref C) "colours" = some none)
  (n_most:PySem.W.findIn K (.ref C) "most" = some none)
  (i_LEAST_NUMBERS:K <<< "LEAST_NUMBERS" <<< (some (.int 3 t_LEAST_NUMBERS)))
  (i_MOST_NUMBERS:K <<< "MOST_NUMBERS" <<< (some (.int 13 t_MOST_NUMBERS)))
  (i_LEAST_COLOURS:K <<< "LEAST_COLOURS" <<< (some (.int 1 t_LEAST_COLOURS)))
  (i_MOST_COLOURS:K <<< "MOST_COLOURS" <<< (some (.int 4 t_MOST_COLOURS)))
  (i_MOST_TILES:K <<< "MOST_TILES" <<< (some (.int 12 t_MOST_TILES)))
  (i_MOST_ALIKE:K <<< "MOST_ALIKE" <<< (some (.int 2 t_MOST_ALIKE)))
  (i_MOST_JOKERS:K <<< "MOST_JOKERS" <<< (some (.int 2 t_MOST_JOKERS)))
  (i_LEAST_SIZE:K <<< "LEAST_SIZE" <<< (some (.int 3 t_LEAST_SIZE)))
  (b_all:K <<< "all" <<< none)
  (b_int:K <<< "int" <<< none)
  (b_len:K <<< "len" <<< none)
  (b_list:K <<< "list" <<< none)
  (b_min:K <<< "min" <<< none)
  (b_range:K <<< "range" <<< none)
  (b_sorted:K <<< "sorted" <<< none)
  (b_sum:K <<< "sum" <<< none)
  (b_tuple:K <<< "tuple" <<< none)
  (a_E_BadHand:K <<< "BadHand" <<< (some (.ref J9)))
  (a_E_BadHouse:K <<< "BadHouse" <<< (some (.ref Ka)))
  (a_E_BadLaying:K <<< "BadLaying" <<< (some (.ref Kb)))
  (a_E_MeldError:K <<< "MeldError" <<< (some (.ref Kc)))
  (e_E_BadHouse:PySem.W.excIn K Ka [.type "ValueError",.type "Exception",.type "BaseException",.type "object"] "ValueError.__new__" = true)
  (e_E_BadHand:PySem.W.excIn K J9 [.type "ValueError",.type "Exception",.type "BaseException",.type "object"] "ValueError.__new__" = true)
  (e_E_BadLaying:PySem.W.excIn K Kb [.type "ValueError",.type "Exception",.type "BaseException",.type "object"] "ValueError.__new__" = true) :
  ∃fd:FuncData,(∀(s:Shared) (v:Value),BindsTo s fd ⟨[v],[]⟩ [("script",v)])/\∀base:Heap,K.In base->base.Ns mainGlobals mg->FnOk l.prog w K mg base so 63 fa fd ["script"] (xS K):=by
 have e:=hfa.symm.trans (PySem.W.mg_of X G A27)
 cases e
 have T:Tx K mg C:=⟨⟨pg,hd,po,sa⟩,n_colours,n_most,jR X G i_LEAST_NUMBERS,jR X G i_MOST_NUMBERS,jR X G i_LEAST_COLOURS,jR X G i_MOST_COLOURS,jR X G i_MOST_TILES,jR X G i_MOST_ALIKE,jR X G i_MOST_JOKERS,jR X G i_LEAST_SIZE,PySem.W.mg_none_of X G b_all,PySem.W.mg_none_of X G b_int,PySem.W.mg_none_of X G b_len,PySem.W.mg_none_of X G b_list,PySem.W.mg_none_of X G b_min,PySem.W.mg_none_of X G b_range,PySem.W.mg_none_of X G b_sorted,PySem.W.mg_none_of X G b_sum,PySem.W.mg_none_of X G b_tuple⟩
 have R:Rx K mg J9 Ka Kb Kc:=⟨AN X G a_E_BadHand e_E_BadHand,AN X G a_E_BadLaying e_E_BadLaying⟩
 refine ⟨PySem.W.fnOf "law" "law" (hR oU) (eS oU) (ao oU) .none v27 e27 p27 n27 m27 t27,fun s v=>.of_eq rfl,fun base kb nb=>?_⟩
 refine Ge (P:=l.prog) (w:=w) (C:=C) (CT:=CT) (J9:=J9) (Ka:=Ka) (Kb:=Kb) (Kc:=Kc) (fun ns hl=>Fc l.prog w K C CT J9 Ka Kb ns hl) ?_
 have TT:Tt K CT:=⟨⟨pgT,hdT,poT,saT⟩,nT_by_least,nT_known⟩
 exact FQ (P:=l.prog) (w:=w) (base:=base) TT ⟨mkT_,aTI,iTI,kcT⟩ (fD lTI cTI kTI) (PySem.W.mg_of X G aCT) ⟨gM0,_,fD lM0 cM0 kM0,⟨aM0,iM0,kM0⟩,(fD lM0 cM0 kM0).binds Es⟩ ⟨gM1,_,fD lM1 cM1 kM1,⟨aM1,iM1,kM1⟩,(fD lM1 cM1 kM1).binds qE⟩ ⟨gM2,_,fD lM2 cM2 kM2,⟨aM2,iM2,kM2⟩,(fD lM2 cM2 kM2).binds nN⟩ ⟨gM3,_,fD lM3 cM3 kM3,⟨aM3,iM3,kM3⟩,(fD lM3 cM3 kM3).binds yT⟩ T R (AN X G a_E_BadHouse e_E_BadHouse) ⟨mk,aI,iI,kc⟩ (fD lI cI kI) (PySem.W.mg_of X G aC) (cE X G A0 L0 c0 k0 wM) (cE X G A1 L1 c1 k1 sx) (cE X G A2 L2 c2 k2 pH) (cE X G A3 L3 c3 k3 vM) (cE X G A4 L4 c4 k4 qC) (cE X G A5 L5 c5 k5 zl) (cE X G A6 L6 c6 k6 uV) (cE X G A7 L7 c7 k7 vE) (cE X G A8 L8 c8 k8 uk) (cE X G A9 L9 c9 k9 me) (cE X G A10 L10 c10 k10 qH) (cE X G A11 L11 c11 k11 uT) (cE X G A12 L12 c12 k12 AB) (cE X G A13 L13 c13 k13 Bx) (cE X G A14 L14 c14 k14 vU) (cE X G A15 L15 c15 k15 kP) (cE X G A16 L16 c16 k16 Cv) (cE X G A17 L17 c17 k17 lF) (cE X G A18 L18 c18 k18 nK) (cE X G A19 L19 c19 k19 C6) (cE X G A20 L20 c20 k20 uI) (cE X G A21 L21 c21 k21 w5) (cE X G A22 L22 c22 k22 nO) (cE X G A23 L23 c23 k23 uj) (cE X G A24 L24 c24 k24 mZ) (cE X G A25 L25 c25 k25 nM) (cE X G A26 L26 c26 k26 nV) (cE X G A28 L28 c28 k28 lB) (fD L27 c27 k27)
theorem walk {l:PySem.W.OpenLaw} {q:Program} {loose:List Str} {XP:(Str->Option Value)->Heap->Prop} {YP:World->Heap->Prop} {d:DefRec} {K:Params->Kd} (hn:l.most=some 63) (hdf:d.params.defaults=[])
  (hY:∀(w:World) (h:Heap),YP w h->(K w.params).In h)
  (F:∀(w:World) (mg:Str->Option Value) (fa:Addr) (h:Heap),(K w.params).In h->h.Ns mainGlobals mg->mg d.name=some (.ref fa) ->
   ∃fd:FuncData,(∀(s:Shared) (u:Value),BindsTo s fd ⟨[u],[]⟩ [("script",u)])/\∀base:Heap,(K w.params).In base->base.Ns mainGlobals mg->FnOk l.prog w (K w.params) mg base so 63 fa fd ["script"] (xS (K w.params))) :
  PySem.W.WalkO q loose XP YP l.row.toRowW d [] (fun f vs=>PySem.call f vs):=
 L2.walk_of (n:=63) (k:=63) (x:= "script") (CX:=fun _=>so) (sp:=fun w=>xS (K w.params)) hn 0x3 hdf ⟨rfl,0x3,0x3⟩ hY F (fun _ _ a ns hl _ hS=>⟨a,ns,rfl,hS,hl,fun _=>rfl⟩) fun _ _ _ _ _ z=>z
theorem walkX {q:Program} {loose:List Str} {XP:(Str->Option Value)->Heap->Prop} {K:Params->Kd} {as:List Addr} {n t:Nat} {r:PySem.W.RowW} {d:DefRec} {kwd:List (Str×Expr)} {run:Value->List Value->Sem Value} (e:∀P,as=(K P).map (·.1))
  (h:PySem.W.WalkO q loose XP (fun w h=>(K w.params).In h) r d kwd run):PySem.W.WalkX q loose XP (PySem.W.X.obsZ as) (PySem.W.X.valZ K n t) r d kwd run:=by
 intro w s₀ s₁ mg mb G y a o pm cd doc dV kV h1 h2 h3 h4 h5 h6 args vals as' L hpre hlay hrd hwl hlo
 exact h w s₀ s₁ mg mb G (fun b ob hb=>L.keeps _ _ ((PySem.W.X.z_facts e y).2.1 b ob hb)) a o pm cd doc dV kV h1 h2 h3 h4 h5 h6 args vals as' hpre hlay hrd hwl hlo
end K8
noncomputable def PySem.W.Fast.tw3596004508177771015:=0
noncomputable def PySem.W.Fast.tw17540993917845730581:=0
noncomputable def PySem.W.Fast.tw7301679211292024521:=0
noncomputable def PySem.W.Fast.tw8382545833313709104:=0
noncomputable def PySem.W.Fast.tw3509169867728748787:=0
noncomputable def PySem.W.Fast.tw17205662669558385261:=0
open PySem PySem.W PyProof.Rows L2 L3 LW K8
set_option maxRecDepth 100000 in
set_option maxHeartbeats 0 in
theorem PySem.Challenge.cw_meldhouse_k08_whole_out_and_helpers_holds : PySem.Challenge.rw_meldhouse_k08_whole_out_and_helpers.Holds := by
 w_on; o_law; z_head; (case hw=>w_witness2)
 k_fill
 refine K8.walkX (fun _=>rfl) (K8.walk (l:=PySem.Challenge.rw_meldhouse_k08_whole_out_and_helpers) rfl rfl (fun w h Y=>Y) ?F)
 case F=>
  intro w mg fa h KX G hmg
  refine' K8.all_mk KX G hmg ?A0 ?L0 ?c0 ?k0 ?A1 ?L1 ?c1 ?k1 ?A2 ?L2 ?c2 ?k2 ?A3 ?L3 ?c3 ?k3 ?A4 ?L4 ?c4 ?k4 ?A5 ?L5 ?c5 ?k5 ?A6 ?L6 ?c6 ?k6 ?A7 ?L7 ?c7 ?k7 ?A8 ?L8 ?c8 ?k8 ?A9 ?L9 ?c9 ?k9 ?A10 ?L10 ?c10 ?k10 ?A11 ?L11 ?c11 ?k11 ?A12 ?L12 ?c12 ?k12 ?A13 ?L13 ?c13 ?k13 ?A14 ?L14 ?c14 ?k14 ?A15 ?L15 ?c15 ?k15 ?A16 ?L16 ?c16 ?k16 ?A17 ?L17 ?c17 ?k17 ?A18 ?L18 ?c18 ?k18 ?A19 ?L19 ?c19 ?k19 ?A20 ?L20 ?c20 ?k20 ?A21 ?L21 ?c21 ?k21 ?A22 ?L22 ?c22 ?k22 ?A23 ?L23 ?c23 ?k23 ?A24 ?L24 ?c24 ?k24 ?A25 ?L25 ?c25 ?k25 ?A26 ?L26 ?c26 ?k26 ?A27 ?L27 ?c27 ?k27 ?A28 ?L28 ?c28 ?k28 ?aCT ?aM0 ?iM0 ?lM0 ?cM0 ?kM0 ?aM1 ?iM1 ?lM1 ?cM1 ?kM1 ?aM2 ?iM2 ?lM2 ?cM2 ?kM2 ?aM3 ?iM3 ?lM3 ?cM3 ?kM3 ?aTI ?iTI ?lTI ?cTI ?kTI ?pgT ?hdT ?poT ?saT ?mkT_ ?kcT ?nT_by_least ?nT_known ?aC ?aI ?iI ?lI ?cI ?kI ?pg ?hd ?po ?sa ?mk ?kc ?n_colours ?n_most ?i_LEAST_NUMBERS ?i_MOST_NUMBERS ?i_LEAST_COLOURS ?i_MOST_COLOURS ?i_MOST_TILES ?i_MOST_ALIKE ?i_MOST_JOKERS ?i_LEAST_SIZE ?b_all ?b_int ?b_len ?b_list ?b_min ?b_range ?b_sorted ?b_sum ?b_tuple ?a_E_BadHand ?a_E_BadHouse ?a_E_BadLaying ?a_E_MeldError ?e_E_BadHouse ?e_E_BadHand ?e_E_BadLaying
  (case A0=>k_is)
  (case L0=>k_is)
  (case c0=>k_is)
  (case k0=>k_is)
  (case A1=>k_is)
  (case L1=>k_is)
  (case c1=>k_is)
  (case k1=>k_is)
  (case A2=>k_is)
  (case L2=>k_is)
  (case c2=>k_is)
  (case k2=>k_is)
  (case A3=>k_is)
  (case L3=>k_is)
  (case c3=>k_is)
  (case k3=>k_is)
  (case A4=>k_is)
  (case L4=>k_is)
  (case c4=>k_is)
  (case k4=>k_is)
  (case A5=>k_is)
  (case L5=>k_is)
  (case c5=>k_is)
  (case k5=>k_is)
  (case A6=>k_is)
  (case L6=>k_is)
  (case c6=>k_is)
  (case k6=>k_is)
  (case A7=>k_is)
  (case L7=>k_is)
  (case c7=>k_is)
  (case k7=>k_is)
  (case A8=>k_is)
  (case L8=>k_is)
  (case c8=>k_is)
  (case k8=>k_is)
  (case A9=>k_is)
  (case L9=>k_is)
  (case c9=>k_is)
  (case k9=>k_is)
  (case A10=>k_is)
  (case L10=>k_is)
  (case c10=>k_is)
  (case k10=>k_is)
  (case A11=>k_is)
  (case L11=>k_is)
  (case c11=>k_is)
  (case k11=>k_is)
  (case A12=>k_is)
  (case L12=>k_is)
  (case c12=>k_is)
  (case k12=>k_is)
  (case A13=>k_is)
  (case L13=>k_is)
  (case c13=>k_is)
  (case k13=>k_is)
  (case A14=>k_is)
  (case L14=>k_is)
  (case c14=>k_is)
  (case k14=>k_is)
  (case A15=>k_is)
  (case L15=>k_is)
  (case c15=>k_is)
  (case k15=>k_is)
  (case A16=>k_is)
  (case L16=>k_is)
  (case c16=>k_is)
  (case k16=>k_is)
  (case A17=>k_is)
  (case L17=>k_is)
  (case c17=>k_is)
  (case k17=>k_is)
  (case A18=>k_is)
  (case L18=>k_is)
  (case c18=>k_is)
  (case k18=>k_is)
  (case A19=>k_is)
  (case L19=>k_is)
  (case c19=>k_is)
  (case k19=>k_is)
  (case A20=>k_is)
  (case L20=>k_is)
  (case c20=>k_is)
  (case k20=>k_is)
  (case A21=>k_is)
  (case L21=>k_is)
  (case c21=>k_is)
  (case k21=>k_is)
  (case A22=>k_is)
  (case L22=>k_is)
  (case c22=>k_is)
  (case k22=>k_is)
  (case A23=>k_is)
  (case L23=>k_is)
  (case c23=>k_is)
  (case k23=>k_is)
  (case A24=>k_is)
  (case L24=>k_is)
  (case c24=>k_is)
  (case k24=>k_is)
  (case A25=>k_is)
  (case L25=>k_is)
  (case c25=>k_is)
  (case k25=>k_is)
  (case A26=>k_is)
  (case L26=>k_is)
  (case c26=>k_is)
  (case k26=>k_is)
  (case A27=>k_is)
  (case L27=>k_is)
  (case c27=>k_is)
  (case k27=>k_is)
  (case A28=>k_is)
  (case L28=>k_is)
  (case c28=>k_is)
  (case k28=>k_is)
  (case aCT=>k_is)
  (case aM0=>k_is)
  (case iM0=>k_is)
  (case lM0=>k_is)
  (case cM0=>k_is)
  (case kM0=>k_is)
  (case aM1=>k_is)
  (case iM1=>k_is)
  (case lM1=>k_is)
  (case cM1=>k_is)
  (case kM1=>k_is)
  (case aM2=>k_is)
  (case iM2=>k_is)
  (case lM2=>k_is)
  (case cM2=>k_is)
  (case kM2=>k_is)
  (case aM3=>k_is)
  (case iM3=>k_is)
  (case lM3=>k_is)
  (case cM3=>k_is)
  (case kM3=>k_is)
  (case aTI=>k_is)
  (case iTI=>k_is)
  (case lTI=>k_is)
  (case cTI=>k_is)
  (case kTI=>k_is)
  (case pgT=>k_is)
  (case hdT=>k_is)
  (case poT=>k_is)
  (case saT=>k_is)
  (case mkT_=>k_is)
  (case kcT=>k_is)
  (case nT_by_least=>k_is)
  (case nT_known=>k_is)
  (case aC=>k_is)
  (case aI=>k_is)
  (case iI=>k_is)
  (case lI=>k_is)
  (case cI=>k_is)
  (case kI=>k_is)
  (case pg=>k_is)
  (case hd=>k_is)
  (case po=>k_is)
  (case sa=>k_is)
  (case mk=>k_is)
  (case kc=>k_is)
  (case n_colours=>k_is)
  (case n_most=>k_is)
  (case i_LEAST_NUMBERS=>k_is)
  (case i_MOST_NUMBERS=>k_is)
  (case i_LEAST_COLOURS=>k_is)
  (case i_MOST_COLOURS=>k_is)
  (case i_MOST_TILES=>k_is)
  (case i_MOST_ALIKE=>k_is)
  (case i_MOST_JOKERS=>k_is)
  (case i_LEAST_SIZE=>k_is)
  (case b_all=>k_is)
  (case b_int=>k_is)
  (case b_len=>k_is)
  (case b_list=>k_is)
  (case b_min=>k_is)
  (case b_range=>k_is)
  (case b_sorted=>k_is)
  (case b_sum=>k_is)
  (case b_tuple=>k_is)
  (case a_E_BadHand=>k_is)
  (case a_E_BadHouse=>k_is)
  (case a_E_BadLaying=>k_is)
  (case a_E_MeldError=>k_is)
  (case e_E_BadHouse=>k_exc)
  (case e_E_BadHand=>k_exc)
  (case e_E_BadLaying=>k_exc)
