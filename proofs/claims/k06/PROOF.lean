import PyProof.Rows.All
import Wide.All
import OpenK.AllK
import Wide.FinOn
import Lean
import PyProof.EqAt
import PyProof.EqKinds
import PyProof.TupleCall
import PySem.Challenge.RW_meldhouse_k06_going_out
abbrev Lc := @List.mem_cons
abbrev Ld := @List.mem_append
abbrev Lf := @List.mem_map
abbrev Lg := @List.mem_singleton
abbrev Lh := @List.mem_range
abbrev Li := @List.mem_filter
abbrev Lj := @List.getElem?_eq_some_iff
abbrev Lk := @Option.isSome_iff_exists
abbrev Ll := @List.pairwise_cons
abbrev Lm := @List.pairwise_append
abbrev Ln := @Array.getElem?_eq_some_iff
abbrev Lo := @Nat.zero_le
abbrev Lp := @Nat.le_trans
abbrev Lq := @Nat.lt_of_lt_of_le
abbrev Lr := @decide_eq_false
abbrev Ls := @decide_eq_true
abbrev Lu := @Nat.ne_of_lt
abbrev Lv := @PySem.Heap.get?_push_size
abbrev Lw := @Option.some.inj
abbrev Lx := @Nat.le_of_eq
abbrev Ly := @Int.le_trans
abbrev Lz := @List.eq_nil_of_length_eq_zero
local macro_rules | `(0x1) => `(by lia)
local macro_rules | `(0x2) => `(by decide +kernel)
local macro_rules | `(0x3) => `(by decide)
local macro_rules | `(0x4) => `(by simp)
abbrev KS := @List.mem_cons_of_mem
abbrev KU := @List.mem_cons_self
abbrev KW := @PySem.Heap.get?_push_of_some
abbrev KY := @List.mem_append_right
abbrev KZ := @List.mem_append_left
abbrev K2 := @Nat.le_refl
abbrev K3 := @PySem.wpAny_bind
abbrev K4 := @PySem.wpAny_pure
abbrev K5 := @PySem.Heap.lt_size
abbrev Lb := PySem.W.Frag
set_option Elab.async false
set_option bootstrap.genMatcherCode false
set_option linter.all false
set_option maxRecDepth 100000
namespace L2
open PySem PySem.Spec PyProof.Rows
abbrev uN:=Sum Int Str
noncomputable def Ft:uN->Value->Bool
 |.inl k,v=>Value.isInt k v
 |.inr x,v=>Value.isStrOf x v
noncomputable def J9 (w:World):uN->Int
 |.inl k=>hashInt k
 |.inr x=>hashStr w x
theorem cM:∀{k:uN} {v:Value},Ft k v=true->(∃i t,k=Sum.inl i/\v=Value.int i t)\/(∃x t,k=Sum.inr x/\v=Value.str x t)
 |.inl i,v,h=>by
  obtain ⟨t,e⟩:=Value.isInt_shape (k:=i) (v:=v) h;exact .inl ⟨i,t,rfl,e⟩
 |.inr x,v,h=>by
  obtain ⟨t,e⟩:=Value.isStrOf_shape (x:=x) (v:=v) h;exact .inr ⟨x,t,rfl,e⟩
theorem Gb (a b:Int):decide ((Sum.inl a:uN)=Sum.inl b)=(a==b):=by
 by_cases e:a=b
 ·subst e; simp
 ·have h:¬(Sum.inl a:uN)=Sum.inl b:=fun q=>e (Sum.inl.inj q);rw [Lr h];exact (beq_eq_false_iff_ne.mpr e).symm
theorem GU (a b:Str):decide ((Sum.inr a:uN)=Sum.inr b)=decide (a=b):=by
 by_cases e:a=b
 ·subst e; simp
 ·have h:¬(Sum.inr a:uN)=Sum.inr b:=fun q=>e (Sum.inr.inj q);rw [Lr h,Lr e]
theorem Gn (a:Int) (b:Str):decide ((Sum.inl a:uN)=Sum.inr b)=false:=Lr (fun q=>nomatch q)
theorem Hv (a:Str) (b:Int):decide ((Sum.inr a:uN)=Sum.inl b)=false:=Lr (fun q=>nomatch q)
noncomputable def uI (prog:Program) (w:World):PySem.KeyKind prog w uN where
 is:=Ft
 hash:=J9 w
 inj:=fun v a b ha hb=>by
  rcases cM ha with ⟨i,t,rfl,rfl⟩|⟨x,t,rfl,rfl⟩
  ·rcases cM hb with ⟨j,u,rfl,e⟩|⟨y,u,rfl,e⟩
   ·injection e with e1 _; rw [e1]
   ·exact nomatch e
  ·rcases cM hb with ⟨j,u,rfl,e⟩|⟨y,u,rfl,e⟩
   ·exact nomatch e
   ·injection e with e1 _; rw [e1]
 byValue:=fun k v h=>by
  rcases cM h with ⟨i,t,rfl,rfl⟩|⟨x,t,rfl,rfl⟩ <;> rfl
 pyHash:=fun hv h=>by
  rcases cM hv with ⟨i,t,rfl,rfl⟩|⟨x,t,rfl,rfl⟩
  ·exact wpAny_pyHash_int h
  ·exact wpAny_pyHash_str h
 eqBool:=fun hu hv h=>by
  rcases cM hu with ⟨i,t,rfl,rfl⟩|⟨x,t,rfl,rfl⟩
  ·rcases cM hv with ⟨j,u,rfl,rfl⟩|⟨y,u,rfl,rfl⟩
   ·rw [Gb] at h; exact wpAny_eqBool_int h
   ·rw [Gn] at h; exact SeqAt.EqAt.int_str i t y u _ _ _ _ h
  ·rcases cM hv with ⟨j,u,rfl,rfl⟩|⟨y,u,rfl,rfl⟩
   ·rw [Hv] at h; exact SeqAt.EqAt.str_int x t j u _ _ _ _ h
   ·rw [GU] at h; exact wpAny_eqBool_str h
 «strs»:=fun k x t v h=>by
  rcases cM h with ⟨i,u,rfl,e⟩|⟨y,u,rfl,e⟩
  ·exact nomatch e
  ·injection e with e1 _
   subst e1;cases v <;> rfl
inductive V where
 |non|bl (b:Bool)|int (i:Int)|str (x:Str)|byt (b:Array UInt8)|flt (b:UInt64)|ref (a:Addr)|ty (n:String)
 deriving DecidableEq
def bJ:V->Value->Prop
 |.non,u=>u=Value.none
 |.bl b,u=>u=Value.bool b
 |.int i,u=>∃t,u=Value.int i t
 |.str x,u=>∃t,u=Value.str x t
 |.byt b,u=>∃t,u=Value.bytes b t
 |.flt b,u=>∃t,u=Value.float b t
 |.ref a,u=>u=Value.ref a
 |.ty n,u=>u=Value.type n
abbrev aX:List V->List Value->Prop:=Paired bJ
theorem aX.length {xs:List V} {us:List Value} (r:aX xs us):xs.length=us.length:=Paired.length r
theorem aX.get:∀{xs:List V} {us:List Value} {i:Nat} {x:V},aX xs us->xs[i]?=some x->∃u,us[i]?=some u/\bJ x u
 |_,_,_,_,.nil,e=>by simp at e
 |_,_,0,_,.cons r _,e=>by simp at e; subst e; exact ⟨_,rfl,r⟩
 |_,_,i+1,x,.cons _ t,e=>by
  obtain ⟨u,h1,h2⟩:=aX.get (i:=i) (x:=x) t (by simpa using e);exact ⟨u,by simpa using h1,h2⟩
theorem aX.set {x:V} {u:Value} (r:bJ x u):∀{xs:List V} {us:List Value} (i:Nat),aX xs us->aX (xs.set i x) (us.set i u)
 |_,_,_,.nil=>.nil
 |_,_,0,.cons _ t=>.cons r t
 |_,_,i+1,.cons q t=>.cons q (aX.set r i t)
theorem aX.append:∀{xs ys:List V} {us ws:List Value},aX xs us->aX ys ws->aX (xs++ys) (us++ws)
 |_,_,_,_,.nil,s=>s
 |_,_,_,_,.cons r t,s=>.cons r (aX.append t s)
theorem aX.take:∀{xs:List V} {us:List Value} (n:Nat),aX xs us->aX (xs.take n) (us.take n)
 |_,_,0,_=>.nil
 |_,_,_+1,.nil=>.nil
 |_,_,n+1,.cons r t=>.cons r (aX.take n t)
theorem aX.drop:∀{xs:List V} {us:List Value} (n:Nat),aX xs us->aX (xs.drop n) (us.drop n)
 |_,_,0,r=>r
 |_,_,_+1,.nil=>.nil
 |_,_,n+1,.cons _ t=>aX.drop n t
def qS:Option V->Option Value->Prop
 |some v,some u=>bJ v u
 |none,none=>True
 |_,_=>False
def KV {κ:Type}:List (κ×V)->List (κ×Value)->Prop:=Paired fun (p:κ×V) (q:κ×Value)=>p.1=q.1/\bJ p.2 q.2
noncomputable def kV:uN->V
 |.inl i=>.int i
 |.inr x=>.str x
inductive HO where
 |lst (xs:List V)
 |tup (xs:List V)
 |dK (kvs:List (uN×V))|dT (kvs:List (List uN×V))
 |set (S:Int->Bool) (n:Nat)
 |ins (C dx:Addr) (fs:List (Str×V))
 |own (x:Addr)
 |xd (fs:List (Str×V))
 |met (f x:Addr)
 |rng (lo hi:Int)
 |frz (o:Obj) (u:HO)
 |tbl (ps:Array Value)
 |ext (φ:(Addr->List V->Prop)->Heap->Prop)
abbrev Hp:=Addr->Option HO
noncomputable def bX (H:Hp) (a:Addr) (o:HO):Hp:=fun b=>if b=a then some o else H b
variable {H:Hp} {a:Addr}
theorem aW {o:HO}:bX H a o a=some o:=by unfold bX; rw [if_pos rfl]
variable {b:Addr}
theorem aG {o:HO} (h:b≠a):bX H a o b=H b:=by unfold bX; rw [if_neg h]
theorem Iq {o u:HO} (h:H a=some o) (h':H b=some u) (d:o≠u):a≠b:=by
 intro e; subst e; rw [h] at h'; exact d (Lw h')
theorem bN {o:HO} (h:H a=some o) (h':H b=none):a≠b:=by
 intro e; subst e; rw [h] at h'; cases h'
section
variable (P:Program) (w:World)
def cR (H:Hp) (h:Heap) (a:Addr):HO->Prop
 |.lst xs=>xs.length<=sizeLine/\∃(B':List Value) (n:Nat),aX xs B'/\h.get? a=some { cls:=.type "list",data:=.seq B'.toArray n }
 |.tup xs=>xs.length<=sizeLine/\∃B':List Value,aX xs B'/\IsTup h a B'.toArray
 |.dK kvs=>kvs.length<=sizeLine/\(a==sysModules)=false/\∃vs,KV kvs vs/\h.DictOf (uI P w) a vs
 |.dT kvs=>kvs.length<=sizeLine/\(a==sysModules)=false/\∃xs:List (List uN×Addr×Value),
   Paired (fun (p:List uN×V) (q:List uN×Addr×Value)=>p.1=q.1/\H q.2.1=some (.tup (p.1.map kV))/\bJ p.2 q.2.2) kvs xs /\
   ∃o es ep,h.get? a=some o/\o.ExactDict/\o.data=.dict es ep/\es.toList=xs.map (entryOfKey (tupleKind (uI P w)))/\(xs.map (·.1)).Nodup
 |.set S n=>h.SetOf (intKind P w) a S n
 |.ins C dx fs=>H dx=some (.own a)/\fs.length<=1000/\dx≠a/\h.get? a=some (PySem.W.instObj C dx) /\
   ∃mA,h.Ns1 dx mA/\(∀f,qS (fs.lookup f) (mA f))/\PySem.Within mA (fs.map (·.1))
 |.own _=>∃o,h.get? a=some o
 |.xd fs=>∃mA,h.Ns1 a mA/\∀f,qS (fs.lookup f) (mA f)
 |.rng lo hi=>∃t u v,h.get? a=some { cls:=.type "range",data:=.fields #[.int lo t,.int hi u,.int 1 v] }
 |.frz o u=>h.get? a=some o/\cR H h a u
 |.tbl ps=>h.get? a=some { cls:=.none,data:=.fields ps }
 |.met f x=>h.get? a=some (PySem.W.methodObj (.ref f) (.ref x))
 |.ext φ=>φ (fun b xs=>H b=some (.tup xs)) h/\(∃o,h.get? a=some o)/\∀(T1 T2:Addr->List V->Prop) (h1 h2:Heap),φ T1 h1->(∀b xs,T1 b xs->T2 b xs)->(∀o,h1.get? a=some o->h2.get? a=some o)->φ T2 h2
def k6 (H:Hp) (h:Heap):Prop:=∀a o,H a=some o->cR P w H h a o
end
section
variable {P:Program} {w:World} {H H':Hp} {h h':Heap} {a:Addr} {o:HO}
theorem cR.lt (x:cR P w H h a o):a<h.objs.size:=by
 cases o with
 |lst xs=>obtain ⟨_,_,_,_,e⟩:=x; exact K5 e
 |tup xs=>obtain ⟨_,_,_,p⟩:=x; exact p.lt
 |dK kvs=>obtain ⟨_,_,_,_,o,_,_,e,_⟩:=x; exact K5 e
 |dT kvs=>obtain ⟨_,_,_,_,o,_,_,e,_⟩:=x; exact K5 e
 |set S n=>obtain ⟨o,_,_,_,e,_⟩:=x; exact K5 e
 |ins C dx fs=>obtain ⟨_,_,_,e,_⟩:=x; exact K5 e
 |own y=>obtain ⟨_,e⟩:=x; exact K5 e
 |xd fs=>obtain ⟨_,⟨_,_,_,e,_⟩,_⟩:=x; exact K5 e
 |rng lo hi=>obtain ⟨_,_,_,e⟩:=x; exact K5 e
 |frz ob u=>obtain ⟨e,_⟩:=x; exact K5 e
 |tbl ps=>exact K5 (show h.get? a=some _ from x)
 |met f y=>exact K5 (show h.get? a=some _ from x)
 |ext φ=>obtain ⟨_,⟨_,e⟩,_⟩:=x; exact K5 e
theorem Paired.mapP {α β:Type} {F G:α->β->Prop}:∀{l₁:List α} {l₂:List β},Paired F l₁ l₂->(∀a b,F a b->G a b)->Paired G l₁ l₂
 |_,_,.nil,_=>.nil
 |_,_,.cons r t,f=>.cons (f _ _ r) (Paired.mapP t f)
theorem cR.stay (x:cR P w H h a o) (k:∀b u,(b=a\/H b=some (.own a))->h.get? b=some u->h'.get? b=some u)
  (ho:∀b,H b=some (.own a)->H' b=some (.own a)) (ht:∀b xs,H b=some (.tup xs)->H' b=some (.tup xs)):cR P w H' h' a o:=by
 induction o with
 |lst xs=>obtain ⟨z,B',n,r,e⟩:=x; exact ⟨z,B',n,r,k _ _ (.inl rfl) e⟩
 |tup xs=>obtain ⟨z,B',r,ob,e,c⟩:=x; exact ⟨z,B',r,ob,k _ _ (.inl rfl) e,c⟩
 |dK kvs=>obtain ⟨z,y,vs,r,ob,es,ep,e,c⟩:=x; exact ⟨z,y,vs,r,ob,es,ep,k _ _ (.inl rfl) e,c⟩
 |dT kvs=>
  obtain ⟨z,y,xs,r,ob,es,ep,e,c⟩:=x;exact ⟨z,y,xs,Paired.mapP r fun p q z=>⟨z.1,ht _ _ z.2.1,z.2.2⟩,ob,es,ep,k _ _ (.inl rfl) e,c⟩
 |set S n=>obtain ⟨ob,es,ep,t,e,c⟩:=x; exact ⟨ob,es,ep,t,k _ _ (.inl rfl) e,c⟩
 |ins C dx fs=>
  obtain ⟨d,z,ne,e,mA,⟨od,es,ep,e2,c⟩,r⟩:=x;exact ⟨ho _ d,z,ne,k _ _ (.inl rfl) e,mA,⟨od,es,ep,k _ _ (.inr d) e2,c⟩,r⟩
 |own y=>obtain ⟨ob,e⟩:=x; exact ⟨ob,k _ _ (.inl rfl) e⟩
 |xd fs=>obtain ⟨mA,⟨od,es,ep,e,c⟩,r⟩:=x; exact ⟨mA,⟨od,es,ep,k _ _ (.inl rfl) e,c⟩,r⟩
 |rng lo hi=>obtain ⟨t,u,v,e⟩:=x; exact ⟨t,u,v,k _ _ (.inl rfl) e⟩
 |frz ob u ih=>obtain ⟨e,q⟩:=x; exact ⟨k _ _ (.inl rfl) e,ih q⟩
 |tbl ps=>
  have e:h.get? a=some { cls:=.none,data:=.fields ps }:=x;show h'.get? a=some { cls:=.none,data:=.fields ps };exact k a _ (.inl rfl) e
 |met f y=>
  have e:h.get? a=some (PySem.W.methodObj (.ref f) (.ref y)):=x;show h'.get? a=some (PySem.W.methodObj (.ref f) (.ref y));exact k a _ (.inl rfl) e
 |ext φ=>obtain ⟨p,⟨o,e⟩,st⟩:=x; exact ⟨st _ _ _ _ p (fun b xs q=>ht b xs q) fun o q=>k _ _ (.inl rfl) q,⟨o,k _ _ (.inl rfl) e⟩,st⟩
theorem k6.lt (x:k6 P w H h) (e:H a=some o):a<h.objs.size:=(x a o e).lt
theorem k6.fresh (x:k6 P w H h) (e:h.objs.size<=a):H a=none:=by
 cases q:H a with
 |none=>rfl
 |some u=>exact absurd (Lq (x.lt q) e) (Nat.lt_irrefl _)
theorem k6.kept (x:k6 P w H h) (k:∀b u,h.get? b=some u->h'.get? b=some u):k6 P w H h':=fun a o e=>
 (x a o e).stay (fun b u _ q=>k b u q) (fun _ q=>q) fun _ _ q=>q
theorem k6.laid (x:k6 P w H h) (k:∀b u,h.get? b=some u->h'.get? b=some u) (hp:h.objs.size<=a) (new:cR P w (bX H a o) h' a o):k6 P w (bX H a o) h':=fun b u e=>by
 have hn:=x.fresh hp;by_cases hb:b=a
 ·subst hb; rw [aW] at e; cases e; exact new
 ·rw [aG hb] at e;exact (x b u e).stay (fun c v _ q=>k c v q) (fun c q=>by rw [aG (bN q hn)]; exact q) fun c xs q=>by rw [aG (bN q hn)]; exact q
end
def Rd (H:Hp) (a:Addr) (u:HO):Prop:=H a=some u\/∃o,H a=some (.frz o u)
variable {P:Program} {w:World} {h:Heap}
theorem Rd.ok {u:HO} (r:Rd H a u) (x:k6 P w H h):cR P w H h a u:=by
 rcases r with r|⟨o,r⟩
 ·exact x a u r
 ·obtain ⟨_,q⟩:=x a _ r;exact q
def Jw:Option HO->Prop
 |some (.lst _)=>True
 |some (.dK _)=>True
 |some (.dT _)=>True
 |some (.set _ _)=>True
 |some (.ins _ _ _)=>True
 |some (.ext _)=>True
 |_=>False
section
variable {P:Program} {w:World} {H:Hp} {h h':Heap} {x e:Addr} {o':HO}
theorem k6.write (ok:k6 P w H h) (mu:Jw (H x)) (he:e=x\/H e=some (.own x)) (k:∀b u,b≠e->h.get? b=some u->h'.get? b=some u) (heo:∃u,h'.get? e=some u)
  (new:cR P w (bX H x o') h' x o'):k6 P w (bX H x o') h':=fun b u q=>by
 have nown:∀c y,H c=some (.own y)->c≠x:=fun c y r z=>by subst z; rw [r] at mu; exact mu
 have ntup:∀c xs,H c=some (.tup xs)->c≠x:=fun c xs r z=>by subst z; rw [r] at mu; exact mu
 by_cases hb:b=x
 ·subst hb; rw [aW] at q; cases q; exact new
 ·rw [aG hb] at q;by_cases N0:b=e
  ·have q':H b=some (.own x):=by
    rcases he with z|z
    ·exact absurd (N0.trans z) hb
    ·rw [N0]; exact z
   rw [q] at q'; cases q'
   obtain ⟨v,hv⟩:=heo;exact ⟨v,by rw [N0]; exact hv⟩
  ·refine (ok b u q).stay (fun c v hc r=>k c v ?_ r) (fun c r=>by rw [aG (nown c b r)]; exact r) fun c xs r=>by rw [aG (ntup c xs r)]; exact r
   rcases hc with rfl|hc
   ·exact N0
   ·rintro rfl;rcases he with z|z
    ·exact nown c b hc z
    ·rw [hc] at z; cases z; exact hb rfl
end
structure Un (fs ex:List Addr) (H H':Hp) (h h':Heap):Prop where
 keep:∀b o,h.get? b=some o->H b=none->b∉fs->b∉ex->h'.get? b=some o
 slot:∀b o,h.get? b=some o->H b=none->b∈fs->b∉ex->∃sl,h'.get? b=some { o with slots:=sl }
 free:∀b o,h.get? b=some o->H b=none->b∉ex->H' b=none
 there:∀b o,h.get? b=some o->b∉ex->∃o',h'.get? b=some o'
 tups:∀b xs,H b=some (.tup xs)->H' b=some (.tup xs)
 frzs:∀b o u,H b=some (.frz o u)->H' b=some (.frz o u)
 tbls:∀b ps,H b=some (.tbl ps)->∃more,H' b=some (.tbl (ps++more))
section
variable {fs NX ex N1:List Addr} {H H1 H2:Hp} {h h1 h2 h':Heap} {a x e:Addr} {o:HO}
theorem Un.any (u:Un fs ex H H1 h h1) {ob:Obj} (q:h.get? b=some ob) (n:H b=none) (hx:b∉ex):∃sl,h1.get? b=some { ob with slots:=sl }:=by
 by_cases hb:b∈fs
 ·exact u.slot b ob q n hb hx
 ·exact ⟨ob.slots,u.keep b ob q n hb hx⟩
theorem Un.kept (k:∀b u,h.get? b=some u->h'.get? b=some u):Un fs ex H H h h':=
 ⟨fun b ob q _ _ _=>k b ob q,fun b ob q _ _ _=>⟨ob.slots,k b ob q⟩,fun _ _ _ n _=>n,fun b ob q _=>⟨ob,k b ob q⟩,fun _ _ q=>q,fun _ _ _ q=>q,fun _ ps q=>⟨#[],by rw [q]; simp⟩⟩
theorem Un.refl:Un fs ex H H h h:=Un.kept fun _ _ q=>q
theorem Un.laid (k:∀b u,h.get? b=some u->h'.get? b=some u) (hp:h.objs.size<=a) (hn:H a=none):Un fs ex H (bX H a o) h h' where
 keep:=fun b u q _ _ _=>k b u q
 slot:=fun b u q _ _ _=>⟨u.slots,k b u q⟩
 free:=fun b u q n _=>by rw [aG (Lu (Lq (K5 q) hp))]; exact n
 there:=fun b u q _=>⟨u,k b u q⟩
 tups:=fun b xs q=>by rw [aG (bN q hn)]; exact q
 frzs:=fun b u xs q=>by rw [aG (bN q hn)]; exact q
 tbls:=fun b ps q=>⟨#[],by rw [aG (bN q hn),q]; simp⟩
theorem Un.write (mu:Jw (H x)) (he:e=x\/H e=some (.own x)) (k:∀b u,b≠e->h.get? b=some u->h'.get? b=some u) (heo:∃u,h'.get? e=some u):Un fs ex H (bX H x o) h h':=by
 have hx:∀b,H b=none->b≠x:=fun b n z=>by subst z; rw [n] at mu; exact mu
 have hb:∀b,H b=none->b≠e:=fun b n z=>by
  subst z;rcases he with r|r
  ·exact hx b n r
  ·rw [n] at r; cases r
 have hm:∀b u,H b=some u->¬Jw (some u)->b≠x:=fun b u q nm z=>by subst z; rw [q] at mu; exact nm mu
 refine ⟨fun b u q n _ _=>k b u (hb b n) q,fun b u q n _ _=>⟨u.slots,k b u (hb b n) q⟩,fun b u q n _=>by rw [aG (hx b n)]; exact n,fun b u q _=>?_,
  fun b xs q=>by rw [aG (hm b _ q fun z=>z)]; exact q,fun b u xs q=>by rw [aG (hm b _ q fun z=>z)]; exact q,fun b ps q=>⟨#[],by rw [aG (hm b _ q fun z=>z),q]; simp⟩⟩
 by_cases N0:b=e
 ·subst N0; exact heo
 ·exact ⟨u,k b u N0 q⟩
end
noncomputable def trk (h:Heap) (H:Hp):List Addr:=(List.range h.objs.size).filter fun a=>(H a).isSome
noncomputable def uw (h:Heap) (H:Hp):Heap:=PySem.W.hideAll h (trk h H)
theorem zR (h:Heap) (H:Hp):(uw h H).objs.size=h.objs.size:=PySem.W.hideAll_size _ _
variable {o:Obj}
theorem Cw (e:h.get? b=some o) (n:H b=none):(uw h H).get? b=some o:=
 PySem.W.hideAll_get _ e fun hm=>by
  have q:(H b).isSome=true:=(Li.mp hm).2;rw [n] at q; simp at q
theorem E4 (e:(uw h H).get? b=some o):h.get? b=some o/\H b=none:=by
 have e':h.get? b=some o:=PySem.W.of_hideAll (trk h H) e;refine ⟨e',?_⟩;cases q:H b with
 |none=>rfl
 |some x=>
  have hm:b∈trk h H:=Li.mpr ⟨Lh.mpr (K5 e'),by simp [q]⟩;have z:(uw h H).get? b=none:=PySem.W.hideAll_none (trk h H) hm;rw [z] at e; cases e
noncomputable def Dr (g h:Heap) (L:Addr):List (Addr×Obj):=(List.range h.objs.size).filterMap fun a=>if a=L\/(g.get? a).isSome=true then none else (h.get? a).map fun o=>(a,o)
noncomputable def cF (g h:Heap) (L d:Addr):List (Addr×Obj):=(Dr g h L).filter fun p=>decide (p.1≠d)
structure Mod (K:Lb) (mg:Str->Option Value) (base:Heap):Prop where
 kin:K.In base
 glob:base.Ns mainGlobals mg
 blt:∃mb,base.Ns builtinsNs mb/\∀x:Str,x ≠ "__name__" -> mb x=bootBuiltins x
 nolimit:base.NoLimit
structure Cx where
 prog:Program
 w:World
 K:Lb
 mg:Str->Option Value
 base:Heap
 A:Around
 N:List Str
 s₀:Shared
 H₀:Hp
 env:Env
 outer:List Env
 stack:List Env
 ex:List Addr
 fn:Str->Bool
 calm:Bool
 pn:List (Addr×Obj)
 xe:Value->Shared->Prop
noncomputable def iP (l:List Env):List Addr:=l.filterMap (·.frame)
noncomputable abbrev Cx.fs (X:Cx):List Addr:=iP X.outer
def Jt (sc:Scope) (x:Str):Prop:=sc.names.lookup x=some .local\/sc.names.lookup x=some .cell\/sc.names.lookup x=some .free
def HW (sc:Scope) (x:Str):Prop:=sc.names.lookup x=some .local\/sc.names.lookup x=some .cell
def JU (env:Env) (h:Heap) (m:Str->Option Value) (x:Str) (u:Value):Prop:=
 (env.kindOf x=some .local/\m x=some u)\/((env.kindOf x=some .cell\/env.kindOf x=some .free)/\∃c,env.cells.lookup x=some c/\h.IsCell c (some u))
structure Cx.Ok (X:Cx):Prop where
 mod:Mod X.K X.mg X.base
 kind:X.env.scope.kind=.function
 glob:X.env.globals=mainGlobals
 blt:X.env.builtins=builtinsNs
 above:X.s₀.heap.objs.size<=X.env.locals
 inj:∀x y c,X.env.cells.lookup x=some c->X.env.cells.lookup y=some c->x=y
 has:∀x,(X.env.kindOf x=some .cell\/X.env.kindOf x=some .free)->∃c,X.env.cells.lookup x=some c
 cab:∀x c,X.fn x=true->X.env.cells.lookup x=some c->X.s₀.heap.objs.size<=c
 hd:X.calm=true->X.A.handled=none
 frames:X.A.frames=some X.stack
 stk:X.stack=X.outer\/(X.stack=X.env::X.outer/\X.env.frame=some X.env.locals)
 exf:∀b∈X.ex,b≠X.env.locals/\∀x c,X.env.cells.lookup x=some c->c≠b
 bs:∀b o,X.base.get? b=some o->X.s₀.heap.get? b=some o/\X.H₀ b=none
 bsz:X.base.objs.size<=X.s₀.heap.objs.size
 noex:∀b o,X.base.get? b=some o->b∉X.ex
 exfs:∀b∈X.ex,b∉X.fs
 funs:X.s₀.heap.FunFrames X.base X.outer
 frf:∀b∈X.fs,X.H₀ b=none
structure Inv (X:Cx) (pins:List (Addr×Obj)) (σ:List (Option V)) (H:Hp) (s:Shared):Prop where
 ok:X.Ok
 os:s.os=X.s₀.os
 bare:AllBare s.gens
 base:Un X.fs X.ex X.H₀ H X.s₀.heap s.heap
 loc:∃m,s.heap.Ns X.env.locals m/\∀(i:Nat) (x:Str) (v:V),X.N[i]?=some x->σ[i]?=some (some v)->Jt X.env.scope x->∃u,bJ v u/\JU X.env s.heap m x u
 cell:∀x c,X.env.cells.lookup x=some c->∃v,s.heap.IsCell c v
 free:H X.env.locals=none
 freeC:∀x c,X.env.cells.lookup x=some c->H c=none
 pin:∀p∈X.pn++pins,s.heap.get? p.1=some p.2/\H p.1=none/\p.1≠X.env.locals/\p.1∉X.fs/\∀v,p.2.data≠.cell v
 hok:k6 X.prog X.w H s.heap
 len:σ.length=X.N.length
section
variable {X:Cx} {pins:List (Addr×Obj)} {σ:List (Option V)} {H H':Hp} {s:Shared} {h':Heap}
theorem Cx.Ok.nofr (ok:X.Ok) (e:X.base.get? b=some o):b∉X.fs:=fun hb=>by
 have:=(ok.funs.mem hb).1;rw [e] at this; cases this
theorem Inv.bs (I:Inv X pins σ H s):∀b o,X.base.get? b=some o->s.heap.get? b=some o/\H b=none:=fun b o e=>
 ⟨I.base.keep b o (I.ok.bs b o e).1 (I.ok.bs b o e).2 (I.ok.nofr e) (I.ok.noex b o e),I.base.free b o (I.ok.bs b o e).1 (I.ok.bs b o e).2 (I.ok.noex b o e)⟩
theorem Inv.bk (I:Inv X pins σ H s):∀b o,X.base.get? b=some o->s.heap.get? b=some o:=fun b o e=>(I.bs b o e).1
theorem Inv.mod (I:Inv X pins σ H s):Mod X.K X.mg X.base:=I.ok.mod
theorem Inv.kIn (I:Inv X pins σ H s):X.K.In s.heap:=I.ok.mod.kin.keeps I.bk
theorem Inv.nolimit (I:Inv X pins σ H s):s.heap.NoLimit:=I.ok.mod.nolimit.keeps I.bk
theorem Inv.fr (I:Inv X pins σ H s):∃m,Fr X.base X.env.locals s.heap m:=
 let ⟨m,hn,_⟩:=I.loc
 ⟨m,hn,I.bk,Lp I.ok.bsz I.ok.above⟩
theorem Inv.lt (I:Inv X pins σ H s):X.env.locals<s.heap.objs.size:=let ⟨_,hn,_⟩:=I.loc; hn.lt
theorem Inv.sz (I:Inv X pins σ H s):X.s₀.heap.objs.size<=s.heap.objs.size:=Lp I.ok.above (Nat.le_of_lt I.lt)
theorem Inv.nofs (I:Inv X pins σ H s) (h:s.heap.objs.size<=a):a∉X.fs:=fun hb=>by
 obtain ⟨_,o,ho,_⟩:=I.ok.funs.mem hb;exact absurd (Lq (K5 ho) (Lp I.sz h)) (Nat.lt_irrefl _)
theorem Inv.cne (I:Inv X pins σ H s):∀x c,X.env.cells.lookup x=some c->c≠X.env.locals:=fun x c e z=>by
 obtain ⟨v,o,ho,hd⟩:=I.cell x c e;obtain ⟨m,⟨o',es,ep,NC,Ng,_⟩,_⟩:=I.loc;rw [z,NC] at ho; cases ho; rw [Ng] at hd; cases hd
theorem Inv.funs (I:Inv X pins σ H s):s.heap.FunFrames X.base X.outer:=by
 have all:∀(l:List Env),(∀b∈iP l,b∈X.fs)->X.s₀.heap.FunFrames X.base l->s.heap.FunFrames X.base l:=by
  intro l
  induction l with
  |nil=>intro _ _; trivial
  |cons env r ih=>
   intro hs hl;obtain ⟨hk,⟨L,o,hf,hn,ho,hd⟩,hr⟩:=hl;have hL:L∈X.fs:=hs L (by unfold iP; rw [List.filterMap_cons,hf]; exact KU);obtain ⟨sl,e⟩:=I.base.slot L o ho (I.ok.frf L hL) hL fun z=>I.ok.exfs L z hL;exact ⟨hk,⟨L,_,hf,hn,e,hd⟩,ih (fun b hb=>hs b (by unfold iP; rw [List.filterMap_cons,hf]; exact KS _ hb)) hr⟩
 exact all X.outer (fun _ hb=>hb) I.ok.funs
theorem Inv.stack (I:Inv X pins σ H s):s.heap.FunFrames X.base X.stack:=by
 rcases I.ok.stk with e|⟨e,hf⟩
 ·rw [e]; exact I.funs
 ·rw [e];obtain ⟨m,hn,_⟩:=I.loc;refine .cons (by rw [I.ok.kind]; decide) hf hn ?_ I.funs;exact Heap.get?_none_of_le (Lp I.ok.bsz I.ok.above)
theorem Inv.stkSub (I:Inv X pins σ H s):∀b∈iP X.stack,b∈X.env.locals::X.fs:=fun b hb=>by
 rcases I.ok.stk with e|⟨e,hf⟩
 ·rw [e] at hb; exact KS _ hb
 ·rw [e] at hb;unfold iP at hb;rw [List.filterMap_cons,hf] at hb;exact hb
theorem Inv.stkFree (I:Inv X pins σ H s):∀b∈iP X.stack,H b=none:=fun b hb=>by
 rcases Lc.mp (I.stkSub b hb) with e|hb
 ·rw [e]; exact I.free
 ·obtain ⟨_,o,ho,_⟩:=I.ok.funs.mem hb;exact I.base.free b o ho (I.ok.frf b hb) fun z=>I.ok.exfs b z hb
variable {ch:List Addr}
theorem Inv.step {g':Array GenState} {t':Nat} {d':Drawn} (I:Inv X pins σ H s)
  (MZ:∀b∈ch,(b∈X.ex\/X.s₀.heap.objs.size<=b)/\b≠X.env.locals/\(∀x c,X.env.cells.lookup x=some c->c≠b)/\∀p∈X.pn++pins,p.1≠b)
  (keep:∀b o,b≠X.env.locals->b∉X.fs->b∉ch->s.heap.get? b=some o->H b=none->h'.get? b=some o)
  (slot:∀b o,b≠X.env.locals->b∈X.fs->b∉ch->s.heap.get? b=some o->H b=none->∃sl,h'.get? b=some { o with slots:=sl }) (free:∀b o,b∉ch->s.heap.get? b=some o->H b=none->H' b=none)
  (there:∀b o,b∉ch->s.heap.get? b=some o->∃o',h'.get? b=some o')
  (tups:∀b xs,H b=some (.tup xs)->H' b=some (.tup xs)) (frzs:∀b o u,H b=some (.frz o u)->H' b=some (.frz o u)) (tbls:∀b ps,H b=some (.tbl ps)->∃more,H' b=some (.tbl (ps++more)))
  (ns:∀m,s.heap.Ns X.env.locals m->h'.Ns X.env.locals m) (hok:k6 X.prog X.w H' h') (hg:AllBare g') :
  Inv X pins σ H' { s with heap:=h',gens:=g',drawn:=d',toks:=t' }:=by
 have neL:∀b o,X.s₀.heap.get? b=some o->b≠X.env.locals:=fun b o e=>Lu (Lq (K5 e) I.ok.above);have Nz:∀b o,X.s₀.heap.get? b=some o->b∉X.ex->b∉ch:=fun b o e hx hb=>by
  rcases (MZ b hb).1 with z|z
  ·exact hx z
  ·exact absurd (Lq (K5 e) z) (Nat.lt_irrefl _)
 have cellK:∀x c,X.env.cells.lookup x=some c->∀v,s.heap.IsCell c v->h'.IsCell c v:=fun x c e v ⟨o,ho,hd⟩=>by
  have nch:c∉ch:=fun z=>(MZ c z).2.2.1 x c e rfl;by_cases hc:c∈X.fs
  ·obtain ⟨sl,q⟩:=slot c o (I.cne x c e) hc nch ho (I.freeC x c e);exact ⟨_,q,hd⟩
  ·exact ⟨o,keep c o (I.cne x c e) hc nch ho (I.freeC x c e),hd⟩
 refine ⟨I.ok,I.os,hg,⟨fun b o e n hb hx=>?_,fun b o e n hb hx=>?_,fun b o e n hx=>?_,fun b o e hx=>?_,fun b xs e=>tups b xs (I.base.tups b xs e),fun b o xs e=>frzs b o xs (I.base.frzs b o xs e),fun b ps e=>?_⟩,?_,fun x c e=>?_,?_,fun x c e=>?_,fun p hp=>?_,hok,I.len⟩
 ·exact keep b o (neL b o e) hb (Nz b o e hx) (I.base.keep b o e n hb hx) (I.base.free b o e n hx)
 ·obtain ⟨sl,e1⟩:=I.base.slot b o e n hb hx;obtain ⟨sl',e2⟩:=slot b _ (neL b o e) hb (Nz b o e hx) e1 (I.base.free b o e n hx);exact ⟨sl',e2⟩
 ·obtain ⟨o',e1⟩:=I.base.there b o e hx;exact free b o' (Nz b o e hx) e1 (I.base.free b o e n hx)
 ·obtain ⟨o',e1⟩:=I.base.there b o e hx;exact there b o' (Nz b o e hx) e1
 ·obtain ⟨m1,e1⟩:=I.base.tbls b ps e;obtain ⟨m2,e2⟩:=tbls b _ e1;exact ⟨m1++m2,by rw [e2,Array.append_assoc]⟩
 ·obtain ⟨m,hn,hl⟩:=I.loc;refine ⟨m,ns m hn,fun i x v e1 e2 e3=>?_⟩;obtain ⟨u,r,l⟩:=hl i x v e1 e2 e3;refine ⟨u,r,?_⟩;rcases l with l|⟨k,c,e,z⟩
  ·exact .inl l
  ·exact .inr ⟨k,c,e,cellK x c e _ z⟩
 ·obtain ⟨v,z⟩:=I.cell x c e;exact ⟨v,cellK x c e v z⟩
 ·obtain ⟨m,⟨o,_,_,ho,_⟩,_⟩:=I.loc;exact free _ o (fun z=>(MZ _ z).2.1 rfl) ho I.free
 ·obtain ⟨v,o,ho,hd⟩:=I.cell x c e;exact free c o (fun z=>(MZ c z).2.2.1 x c e rfl) ho (I.freeC x c e)
 ·obtain ⟨e,n,ne,nf,d⟩:=I.pin p hp;have nch:p.1∉ch:=fun z=>(MZ p.1 z).2.2.2 p hp rfl;exact ⟨keep p.1 p.2 ne nf nch e n,free p.1 p.2 nch e n,ne,nf,d⟩
theorem Inv.un {t':Nat} (I:Inv X pins σ H s) (u:Un X.fs [] H H' s.heap h') (hok:k6 X.prog X.w H' h'):Inv X pins σ H' { s with heap:=h',toks:=t' }:=by
 obtain ⟨m,⟨o,es,ep,ho,r⟩,_⟩:=id I.loc;obtain ⟨sl,hL⟩:=u.any ho I.free 0x4;exact I.step (g':=s.gens) (d':=s.drawn) (ch:=[]) (fun _ z=>nomatch z) (fun b o _ hb _ e n=>u.keep b o e n hb 0x4) (fun b o _ hb _ e n=>u.slot b o e n hb 0x4) (fun b o _ e n=>u.free b o e n 0x4) (fun b o _ e=>u.there b o e 0x4) u.tups u.frzs u.tbls (fun m' hm=>by
  obtain ⟨o',es',ep',NC,r'⟩:=hm;rw [ho] at NC; cases NC
  exact ⟨_,es',ep',hL,r'⟩) hok I.bare
theorem Inv.call {g':Array GenState} {t':Nat} {d':Drawn} (I:Inv X pins σ H s) (u:Un (iP X.stack) ch H H' s.heap h') (hok:k6 X.prog X.w H' h') (hg:AllBare g')
  (MZ:∀b∈ch,(b∈X.ex\/X.s₀.heap.objs.size<=b)/\b≠X.env.locals/\(∀x c,X.env.cells.lookup x=some c->c≠b)/\∀p∈X.pn++pins,p.1≠b) :
  Inv X pins σ H' { s with heap:=h',gens:=g',drawn:=d',toks:=t' }:=by
 obtain ⟨m,⟨o,es,ep,ho,r⟩,_⟩:=id I.loc;obtain ⟨sl,hL⟩:=u.any ho I.free fun z=>(MZ _ z).2.1 rfl;exact I.step (ch:=ch) MZ (fun b o hL hb hc e n=>u.keep b o e n (fun z=>(Lc.mp (I.stkSub b z)).elim hL hb) hc) (fun b o _ _ hc e n=>u.any e n hc) (fun b o hc e n=>u.free b o e n hc) (fun b o hc e=>u.there b o e hc) u.tups u.frzs u.tbls (fun m' hm=>by
  obtain ⟨o',es',ep',NC,r'⟩:=hm;rw [ho] at NC; cases NC
  exact ⟨_,es',ep',hL,r'⟩) hok hg
theorem Inv.turned {t':Nat} {it:Addr} (I:Inv X pins σ H s) (k:∀b o,b≠it->s.heap.get? b=some o->h'.get? b=some o) (hn:H it=none) (hL:it≠X.env.locals)
  (h1:it∈X.ex\/X.s₀.heap.objs.size<=it) (h2:∀x c,X.env.cells.lookup x=some c->c≠it) (h3:∀p∈X.pn++pins,p.1≠it):Inv X pins σ H { s with heap:=h',toks:=t' }:=by
 have nit:∀b u,H b=some u->b≠it:=fun b u e z=>by rw [z,hn] at e; cases e
 refine I.step (g':=s.gens) (d':=s.drawn) (ch:=[it]) (fun b hb=>?_) (fun b o _ _ hc e _=>k b o (fun z=>hc (by simp [z])) e) (fun b o _ _ hc e _=>⟨o.slots,k b o (fun z=>hc (by simp [z])) e⟩) (fun _ _ _ _ n=>n)
  (fun b o hc e=>⟨o,k b o (fun z=>hc (by simp [z])) e⟩) (fun _ _ e=>e) (fun _ _ _ e=>e) (fun b ps e=>⟨#[],by rw [e]; simp⟩) (fun m hm=>?_) (fun b u e=>?_) I.bare
 ·have e:b=it:=by simpa using hb
  subst e;exact ⟨h1,hL,h2,h3⟩
 ·obtain ⟨o,es,ep,ho,r⟩:=hm;exact ⟨o,es,ep,k _ o (Ne.symm hL) ho,r⟩
 ·refine (I.hok b u e).stay (fun c v hc q=>k c v ?_ q) (fun _ q=>q) fun _ _ q=>q;rcases hc with z|z
  ·rw [z]; exact nit b u e
  ·exact nit c _ z
theorem Inv.tok (I:Inv X pins σ H s) (t:Nat):Inv X pins σ H { s with toks:=t }:=I.un (h':=s.heap) (t':=t) Un.refl I.hok
theorem Inv.kept {t':Nat} (I:Inv X pins σ H s) (k:∀b u,s.heap.get? b=some u->h'.get? b=some u):Inv X pins σ H { s with heap:=h',toks:=t' }:=I.un (Un.kept k) (I.hok.kept k)
theorem Inv.laid {a:Addr} {o:HO} {t':Nat} (I:Inv X pins σ H s) (k:∀b u,s.heap.get? b=some u->h'.get? b=some u) (hp:s.heap.objs.size<=a) (new:cR X.prog X.w (bX H a o) h' a o) :
  Inv X pins σ (bX H a o) { s with heap:=h',toks:=t' }:=I.un (Un.laid k hp (I.hok.fresh hp)) (I.hok.laid k hp new)
theorem Inv.write {x e:Addr} {o:HO} {t':Nat} (I:Inv X pins σ H s) (mu:Jw (H x)) (he:e=x\/H e=some (.own x)) (k:∀b u,b≠e->s.heap.get? b=some u->h'.get? b=some u) (heo:∃u,h'.get? e=some u)
  (new:cR X.prog X.w (bX H x o) h' x o):Inv X pins σ (bX H x o) { s with heap:=h',toks:=t' }:=I.un (Un.write mu he k heo) (I.hok.write mu he k heo new)
theorem Inv.pins_of {Ou:List (Addr×Obj)} (I:Inv X pins σ H s) (h:∀p∈Ou,s.heap.get? p.1=some p.2/\H p.1=none/\p.1≠X.env.locals/\p.1∉X.fs/\∀v,p.2.data≠.cell v):Inv X Ou σ H s:=
 ⟨I.ok,I.os,I.bare,I.base,I.loc,I.cell,I.free,I.freeC,fun p hp=>(Ld.mp hp).elim (fun z=>I.pin p (KZ _ z)) (h p),I.hok,I.len⟩
variable {i:Nat} {x:Str}
theorem vV {N:List Str} (hN:N.Nodup) {j:Nat} (a:N[i]?=some x) (b:N[j]?=some x):i=j:=by
 obtain ⟨h1,e1⟩:=Lj.mp a;obtain ⟨h2,e2⟩:=Lj.mp b;exact (List.getElem_inj hN).mp (e1.trans e2.symm)
theorem rf {M:Model} {A:Around} {E:Value->Shared->Prop} {v:V} {u:Value} {Q:Unit->Shared->Prop} (I:Inv X pins σ H s) (hN:X.N.Nodup) (hi:X.N[i]?=some x) (hx:HW X.env.scope x) (r:bJ v u)
  (h:∀s',Inv X pins (σ.set i (some v)) H s'->(∃a,Heap.SameBut a s.heap s'.heap/\(a=X.env.locals\/X.env.cells.lookup x=some a))->Q () s') (hf:X.fn x=true\/X.env.scope.names.lookup x=some .local:=by first|exact .inl rfl|exact .inr rfl|assumption):wpAny M A (storeName X.env x u) Q E s:=by
 obtain ⟨m,hn,hl⟩:=id I.loc;have hcls:(X.env.scope.kind==.class||(X.env.scope.kind==.module&&X.env.locals != X.env.globals))=false:=by rw [I.ok.kind]; rfl
 have hiσ:i<σ.length:=by rw [I.len]; exact (Lj.mp hi).1
 have cne:=I.cne;have tracked:∀{a:Addr} {h':Heap},(∃o,s.heap.get? a=some o/\H a=none)->Heap.SameBut a s.heap h'->k6 X.prog X.w H h':=fun {a h'} ha hs b ob e=>by
  obtain ⟨_,_,Mc⟩:=ha;refine (I.hok b ob e).stay (fun c w' hc q=>(hs.2 c ?_).trans q) (fun _ q=>q) fun _ _ q=>q;rintro rfl;rcases hc with rfl|hc
  ·rw [Mc] at e; cases e
  ·rw [Mc] at hc; cases hc
 rcases hx with hk|hk
 ·refine wpAny_storeName_local hk hn (fun h' N3 hs=>?_) hcls;obtain ⟨oL,_,_,hoL,_⟩:=id hn;refine h _ ⟨I.ok,I.os,I.bare,⟨fun b o e n hb hx=>?_,fun b o e n hb hx=>?_,I.base.free,fun b o e hx=>?_,I.base.tups,I.base.frzs,I.base.tbls⟩,⟨_,N3,fun j y v' e1 e2 e3=>?_⟩,fun y c e=>?_,I.free,I.freeC,fun p hp=>?_,tracked ⟨oL,hoL,I.free⟩ hs,by simpa using I.len⟩ ⟨_,hs,.inl rfl⟩
  ·exact (hs.2 b (Lu (Lq (K5 e) I.ok.above))).trans (I.base.keep b o e n hb hx)
  ·obtain ⟨sl,e1⟩:=I.base.slot b o e n hb hx;exact ⟨sl,(hs.2 b (Lu (Lq (K5 e) I.ok.above))).trans e1⟩
  ·obtain ⟨o',e1⟩:=I.base.there b o e hx;exact ⟨o',(hs.2 b (Lu (Lq (K5 e) I.ok.above))).trans e1⟩
  ·by_cases hj:j=i
   ·subst hj;rw [hi] at e1; cases e1
    rw [List.getElem?_set_self hiσ] at e2;cases e2;exact ⟨u,r,.inl ⟨hk,0x4⟩⟩
   ·rw [List.getElem?_set_ne (Ne.symm hj)] at e2;obtain ⟨u',r',q⟩:=hl j y v' e1 e2 e3;refine ⟨u',r',?_⟩;rcases q with ⟨k,e⟩|⟨k,c,e,z⟩
    ·refine .inl ⟨k,?_⟩;have:y≠x:=fun e=>hj (vV hN e1 (e▸hi));simp [this,e]
    ·exact .inr ⟨k,c,e,z.sameBut hs (cne y c e)⟩
  ·obtain ⟨w',z⟩:=I.cell y c e;exact ⟨w',z.sameBut hs (cne y c e)⟩
  ·obtain ⟨e,n,ne,nf,d⟩:=I.pin p hp;exact ⟨(hs.2 p.1 ne).trans e,n,ne,nf,d⟩
 ·have hfn:X.fn x=true:=by
   rcases hf with z|z
   ·exact z
   ·rw [z] at hk; cases hk
  obtain ⟨c,hc⟩:=I.ok.has x (.inl hk);obtain ⟨w',z⟩:=I.cell x c hc;refine wpAny_storeName_cell I.ok.kind hk hc z (fun h' MD hs=>?_);obtain ⟨oc,hoc,hocd⟩:=id z;refine h { s with heap:=h' } ⟨I.ok,I.os,I.bare,⟨fun b o e n hb hx=>?_,fun b o e n hb hx=>?_,I.base.free,fun b o e hx=>?_,I.base.tups,I.base.frzs,I.base.tbls⟩,⟨m,hn.sameBut hs (Ne.symm (cne x c hc)),fun j y v' e1 e2 e3=>?_⟩,fun y c' e=>?_,I.free,I.freeC,fun p hp=>?_,tracked ⟨oc,hoc,I.freeC x c hc⟩ hs,by simpa using I.len⟩ ⟨c,hs,.inr hc⟩
  ·exact (hs.2 b (Lu (Lq (K5 e) (I.ok.cab x c hfn hc)))).trans (I.base.keep b o e n hb hx)
  ·obtain ⟨sl,e1⟩:=I.base.slot b o e n hb hx;exact ⟨sl,(hs.2 b (Lu (Lq (K5 e) (I.ok.cab x c hfn hc)))).trans e1⟩
  ·obtain ⟨o',e1⟩:=I.base.there b o e hx;exact ⟨o',(hs.2 b (Lu (Lq (K5 e) (I.ok.cab x c hfn hc)))).trans e1⟩
  ·by_cases hj:j=i
   ·subst hj;rw [hi] at e1; cases e1
    rw [List.getElem?_set_self hiσ] at e2;cases e2;exact ⟨u,r,.inr ⟨.inl hk,c,hc,MD⟩⟩
   ·rw [List.getElem?_set_ne (Ne.symm hj)] at e2;obtain ⟨u',r',q⟩:=hl j y v' e1 e2 e3;refine ⟨u',r',?_⟩;rcases q with q|⟨k,c',e,z'⟩
    ·exact .inl q
    ·refine .inr ⟨k,c',e,z'.sameBut hs ?_⟩;rintro rfl;exact hj (vV hN e1 (I.ok.inj _ _ _ e hc▸hi))
  ·by_cases hcc:c'=c
   ·subst hcc; exact ⟨_,MD⟩
   ·obtain ⟨w2,z2⟩:=I.cell y c' e;exact ⟨w2,z2.sameBut hs hcc⟩
  ·obtain ⟨e,n,ne,nf,d⟩:=I.pin p hp;refine ⟨(hs.2 p.1 ?_).trans e,n,ne,nf,d⟩;intro q;rw [q,hoc] at e;have q':oc=p.2:=Lw e;exact d w' (by rw [<-q']; exact hocd)
theorem u6 {M:Model} {A:Around} {E:Value->Shared->Prop} {v:V} {u:Value} {Q:Unit->Shared->Prop} (I:Inv X pins σ H s) (hN:X.N.Nodup) (hi:X.N[i]?=some x) (hx:HW X.env.scope x) (r:bJ v u)
  (h:∀s',Inv X pins (σ.set i (some v)) H s'->Q () s') (hf:X.fn x=true\/X.env.scope.names.lookup x=some .local:=by first|exact .inl rfl|exact .inr rfl|assumption):wpAny M A (storeName X.env x u) Q E s:=
 rf I hN hi hx r (fun s' I' _=>h s' I') hf
theorem Inv.call' {s':Shared} (I:Inv X pins σ H s) (ho:s'.os=s.os) (u:Un (iP X.stack) ch H H' s.heap s'.heap) (hok:k6 X.prog X.w H' s'.heap) (hg:AllBare s'.gens)
  (MZ:∀b∈ch,(b∈X.ex\/X.s₀.heap.objs.size<=b)/\b≠X.env.locals/\(∀x c,X.env.cells.lookup x=some c->c≠b)/\∀p∈X.pn++pins,p.1≠b):Inv X pins σ H' s':=by
 obtain ⟨h',g',d',t',o'⟩:=s';have e:o'=s.os:=ho;subst e;exact I.call (g':=g') (t':=t') (d':=d') u hok hg MZ
end
abbrev XK:=Value->Option Addr->Hp->Prop
abbrev St:=List (Option V)
abbrev VK:=V->Hp->Prop
abbrev TE:=St->Hp->VK->Prop
abbrev TT:=St->Hp->(Bool->Hp->Prop)->Prop
abbrev TA:=St->Hp->(List V->Hp->Prop)->Prop
structure Ends where
 nx:St->Hp->Prop
 rt:VK
 bk:St->Hp->Prop:=fun _ _=>False
 ct:St->Hp->Prop:=fun _ _=>False
abbrev TS:=Ends->St->Hp->Prop
def EP (X:Cx) (pins:List (Addr×Obj)) (σ:St) (Q:VK) (u:Value) (s':Shared):Prop:=∃v H',Inv X pins σ H' s'/\bJ v u/\Q v H'
def TP (X:Cx) (pins:List (Addr×Obj)) (σ:St) (Q:Bool->Hp->Prop) (b:Bool) (s':Shared):Prop:=∃H',Inv X pins σ H' s'/\Q b H'
def AP (X:Cx) (pins:List (Addr×Obj)) (σ:St) (Q:List V->Hp->Prop) (us:List Value) (s':Shared):Prop:=∃vs H',Inv X pins σ H' s'/\aX vs us/\Q vs H'
def SP (X:Cx) (pins:List (Addr×Obj)) (D:Ends) (f:Flow) (s':Shared):Prop:=
 match f with
 |.next=>∃σ' H',Inv X pins σ' H' s'/\D.nx σ' H'
 |.brk=>∃σ' H',Inv X pins σ' H' s'/\D.bk σ' H'
 |.cont=>∃σ' H',Inv X pins σ' H' s'/\D.ct σ' H'
 |.ret u=>∃v σ' H',Inv X pins σ' H' s'/\bJ v u/\D.rt v H'
def PE (X:Cx) (e:Expr) (t:TE):Prop:=
 ∀(pins:List (Addr×Obj)) (s:Shared) (σ:St) (H:Hp) (Q:VK),Inv X pins σ H s->t σ H Q->wpAny (model X.prog X.w) X.A (eval e X.env) (EP X pins σ Q) X.xe s
def PT (X:Cx) (e:Expr) (t:TT):Prop:=
 ∀(pins:List (Addr×Obj)) (s:Shared) (σ:St) (H:Hp) (Q:Bool->Hp->Prop),Inv X pins σ H s->t σ H Q->wpAny (model X.prog X.w) X.A (isTrue e X.env (eval e X.env)) (TP X pins σ Q) X.xe s
def PW (X:Cx) (e:Expr) (t:TT):Prop:=
 ∀(whole:Sem Value) (pins:List (Addr×Obj)) (s:Shared) (σ:St) (H:Hp) (Q:Bool->Hp->Prop),Inv X pins σ H s->t σ H Q->wpAny (model X.prog X.w) X.A (isTrue e X.env whole) (TP X pins σ Q) X.xe s
variable {X:Cx} {e:Expr}
theorem PW.pt {t:TT} (h:PW X e t):PT X e t:=h _
def PA (X:Cx) (es:List Expr) (t:TA):Prop:=
 ∀(pos:Pos) (pins:List (Addr×Obj)) (s:Shared) (σ:St) (H:Hp) (Q:List V->Hp->Prop),Inv X pins σ H s->t σ H Q->wpAny (model X.prog X.w) X.A (spliced (backTo pos (starEach es X.env))) (AP X pins σ Q) X.xe s
def PS (X:Cx) (st:Stmt) (t:TS):Prop:=
 ∀(pins:List (Addr×Obj)) (s:Shared) (σ:St) (H:Hp) (D:Ends),Inv X pins σ H s->t D σ H->wpAny (model X.prog X.w) X.A (exec st X.env) (SP X pins D) X.xe s
def qQ (X:Cx) (st:List Stmt) (t:TS):Prop:=
 ∀(pins:List (Addr×Obj)) (s:Shared) (σ:St) (H:Hp) (D:Ends),Inv X pins σ H s->t D σ H->wpAny (model X.prog X.w) X.A (execs st X.env) (SP X pins D) X.xe s
variable {A:Around} {E:Value->Shared->Prop} {s:Shared}
theorem cG {α:Type} {t:Sem α} {Q Q':α->Shared->Prop} {M:Model} (h:wpAny M A t Q E s) (hQ:∀a s,Q a s->Q' a s):wpAny M A t Q' E s:=wpAny_mono h hQ fun _ _ x=>x
section
variable {X:Cx}
variable {pins:List (Addr×Obj)} {σ:St}
theorem JD {a b:Expr} {ta tb:TE} (ha:PE X a ta) (hb:PE X b tb) {R:V->V->Hp->Prop} (I:Inv X pins σ H s) (h:ta σ H fun x H1=>tb σ H1 fun y H2=>R x y H2)
  {α:Type} {Q:α->Shared->Prop} {f:Value->Value->Sem α}
  (hf:∀v u s2 x y H2,Inv X pins σ H2 s2->bJ x v->bJ y u->R x y H2->wpAny (model X.prog X.w) X.A (f v u) Q X.xe s2) :
  wpAny (model X.prog X.w) X.A (eval a X.env) (fun v s₁=>wpAny (model X.prog X.w) X.A (eval b X.env) (fun u s₂=>wpAny (model X.prog X.w) X.A (f v u) Q X.xe s₂) X.xe s₁) X.xe s:=by
 refine cG (ha pins s σ H _ I h) fun v s1 ⟨x,H1,I1,r1,q1⟩=>?_;refine cG (hb pins s1 σ H1 _ I1 q1) fun u s2 ⟨y,H2,I2,r2,q2⟩=>?_;exact hf v u s2 x y H2 I2 r1 r2 q2
def ph (i:Nat):TE:=fun σ H Q=>∃v,σ[i]?=some (some v)/\Q v H
def tC (v:V):TE:=fun _ H Q=>Q v H
variable {x:Str} {pos:Pos}
theorem HC {i:Nat} (hN:X.N[i]?=some x) (hv:Jt X.env.scope x) (hd:(x==("__debug__" : Str))=false:=by decide) (M':(x==("__classdict__" : Str))=false:=by decide):PE X (.Name x pos) (ph i):=by
 intro pins s σ H Q I h;obtain ⟨v,e,h⟩:=h;obtain ⟨m,hn,hl⟩:=I.loc;obtain ⟨u,r,l⟩:=hl i x v hN e hv;have fin:EP X pins σ Q u s:=⟨v,H,I,r,h⟩;rcases l with ⟨hk,hm⟩|⟨hk,c,hc,MC⟩
 ·exact wpAny_Name (wpAny_loadName_local I.ok.kind hk hn hm fin) hd
 ·rcases hk with hk|hk
  ·exact wpAny_Name (wpAny_loadName_cell I.ok.kind hk hc MC fin) hd
  ·exact wpAny_Name (wpAny_loadName_free I.ok.kind hk hc MC fin M') hd
theorem GG {i j pos}:PE X (.Constant (.int i) j pos) (tC (.int i)):=fun _ _ _ H _ I h=>wpAny_Constant_int ⟨.int i,H,I.tok _,⟨_,rfl⟩,h⟩
theorem Ie {b j pos}:PE X (.Constant (.bool b) j pos) (tC (.bl b)):=fun _ _ _ H _ I h=>Constant_bool ⟨.bl b,H,I,rfl,h⟩
theorem Co {x j pos}:PE X (.Constant (.str x) j pos) (tC (.str x)):=fun _ _ _ H _ I h=>Calls.Constant_str ⟨.str x,H,I.tok _,⟨_,rfl⟩,h⟩
def Gl (X:Cx) (x:Str):Prop:=X.env.kindOf x=some .globalImplicit
variable {u:Value}
theorem oz {Q:Value->Shared->Prop} (I:Inv X pins σ H s) (hg:Gl X x) (hm:X.mg x=some u) (h:Q u s)
  (hd:(x==("__debug__" : Str))=false:=by decide):wpAny (model X.prog X.w) X.A (eval (.Name x pos) X.env) Q E s:=
 Calls.Name_function_global I.ok.kind hg (Calls.loadGlobal_global (by rw [I.ok.glob]; exact I.mod.glob.keeps I.bk) hm h) hd
theorem lj {Q:Value->Shared->Prop} (I:Inv X pins σ H s) (hg:Gl X x) (hm:X.mg x=none) (hv:bootBuiltins x=some u) (h:Q u s)
  (hn:x ≠ "__name__" :=by decide) (hd:(x==("__debug__" : Str))=false:=by decide):wpAny (model X.prog X.w) X.A (eval (.Name x pos) X.env) Q E s:=by
 obtain ⟨mb,h1,h2⟩:=I.mod.blt;exact Calls.Name_function_global I.ok.kind hg (Calls.loadGlobal_builtin (by rw [I.ok.glob]; exact I.mod.glob.keeps I.bk) hm (by rw [I.ok.blt]; exact h1.keeps I.bk) ((h2 x hn).trans hv) h) hd
theorem Ex {v:V} (hg:Gl X x) (hm:X.mg x=some u) (r:bJ v u) (hd:(x==("__debug__" : Str))=false:=by decide):PE X (.Name x pos) (tC v):=
 fun _ _ _ H _ I h=>oz I hg hm ⟨v,H,I,r,h⟩ hd
variable {a b:Expr} {ta tb:TE} {pos:Pos}
def PC (X:Cx) (op:CmpOp) (a b:Expr) (t:TE):Prop:=
 ∀(pins:List (Addr×Obj)) (s:Shared) (σ:St) (H:Hp) (Q:VK),Inv X pins σ H s->t σ H Q ->
  wpAny (model X.prog X.w) X.A (eval a X.env) (fun v s₁=>wpAny (model X.prog X.w) X.A (eval b X.env) (fun u s₂=>wpAny (model X.prog X.w) X.A (compareOp op v u) (EP X pins σ Q) X.xe s₂) X.xe s₁) X.xe s
theorem BY (b:Expr) {op:CmpOp} (h:op≠.In) (h2:op≠.NotIn):behindInMarks op b=false:=by
 have e1:(op==CmpOp.In)=false:=by cases op <;> first|rfl|exact absurd rfl h
 have e2:(op==CmpOp.NotIn)=false:=by cases op <;> first|rfl|exact absurd rfl h2
 cases b <;> simp [behindInMarks,e1,e2]
def tB (t:TE):TT:=fun σ H Q=>t σ H fun x H1=>∃c,x=.bl c/\Q c H1
variable {t:TE}
theorem JT {op:CmpOp} (h:PC X op a b t) (h1:behindInMarks op b=false:=by first|exact BY _ 0x3 0x3|rfl):PT X (.Compare a [op] [b] pos) (tB t):=by
 intro pins s σ H Q I hw;refine wpAny_isTrue_Compare1 (cG (h pins s σ H _ I hw) fun v s1 h1=>cG h1 fun u s2 h2=>cG h2 fun c s3 ⟨x,H1,I1,r1,q1⟩=>?_) h1;obtain ⟨d,rfl,q⟩:=q1;cases r1;exact wpAny_truthy_bool ⟨H1,I1,q⟩
theorem F7 (h:PE X e t) (he:∀whole,isTrue e X.env whole=(do let v <-whole; standAt e.pos; holding [v] (truthy v)):=by intro _; rfl):PT X e (tB t):=by
 intro pins s σ H Q I hw;refine isTrue_plain (cG (h pins s σ H _ I hw) fun v s1 ⟨x,H1,I1,r1,q1⟩=>?_) (he _);obtain ⟨d,rfl,q⟩:=q1;cases r1;exact wpAny_truthy_bool ⟨H1,I1,q⟩
variable {tA tB':TT} {cF:List Expr}
def JJ (t u:TT):TT:=fun σ H Q=>t σ H fun c H1=>if c=true then u σ H1 Q else Q false H1
def Kx (t u:TT):TT:=fun σ H Q=>t σ H fun c H1=>if c=true then Q true H1 else u σ H1 Q
def JL (t:TT):TT:=fun σ H Q=>t σ H fun c H1=>Q (!c) H1
theorem EY (ha:PT X a tA):PW X (.BoolOp .And [a] pos) tA:=by
 intro wh pins s σ H Q I h;refine isTrue_and (cG (ha pins s σ H Q I h) fun c s1 e=>?_);cases c with
 |true=>exact isTrue_and_nil e
 |false=>exact e
theorem GL (ha:PT X a tA):PW X (.BoolOp .Or [a] pos) tA:=by
 intro wh pins s σ H Q I h;refine isTrue_or (cG (ha pins s σ H Q I h) fun c s1 e=>?_);cases c with
 |false=>exact isTrue_or_nil e
 |true=>exact e
theorem Gu (ha:PT X a tA) (hb:PW X (.BoolOp .And (b::cF) pos) tB'):PW X (.BoolOp .And (a::b::cF) pos) (JJ tA tB'):=by
 intro wh pins s σ H Q I h;refine isTrue_and (cG (ha pins s σ H _ I h) fun c s1 ⟨H1,I1,q1⟩=>?_);cases c with
 |true=>exact hb wh pins s1 σ H1 Q I1 q1
 |false=>exact ⟨H1,I1,q1⟩
theorem Ji (ha:PT X a tA) (hb:PW X (.BoolOp .Or (b::cF) pos) tB'):PW X (.BoolOp .Or (a::b::cF) pos) (Kx tA tB'):=by
 intro wh pins s σ H Q I h;refine isTrue_or (cG (ha pins s σ H _ I h) fun c s1 ⟨H1,I1,q1⟩=>?_);cases c with
 |true=>exact ⟨H1,I1,q1⟩
 |false=>exact hb wh pins s1 σ H1 Q I1 q1
theorem Ho (ha:PT X a tA):PT X (.UnaryOp .Not a pos) (JL tA):=by
 intro pins s σ H Q I h;exact isTrue_not (ha pins s σ H (fun c H1=>Q (!c) H1) I h)
def IX (ta tb:TE):TE:=fun σ H Q=>ta σ H fun x H1=>∃c,x=.bl c/\if c=true then tb σ H1 Q else Q (.bl false) H1
theorem Hh {op} (h:PE X a t):PE X (.BoolOp op [a] pos) t:=fun pins s σ H Q I hw=>BoolOp_one (h pins s σ H Q I hw)
theorem HG (ha:PE X a ta) (hb:PE X (.BoolOp .And (b::cF) pos) tb):PE X (.BoolOp .And (a::b::cF) pos) (IX ta tb):=by
 intro pins s σ H Q I h;refine BoolOp_and (cG (ha pins s σ H _ I h) fun v s1 ⟨x,H1,I1,r1,q1⟩=>?_);obtain ⟨c,rfl,q1⟩:=q1;cases r1;refine wpAny_truthy_bool ?_;cases c with
 |true=>exact hb pins s1 σ H1 Q I1 q1
 |false=>exact ⟨.bl false,H1,I1,rfl,q1⟩
end
def eN (K:Lb) (H:Hp) (a:Addr) (xs:List V):Prop:=
 Rd H a (.lst xs) \/
  ∃(o:Obj) (B':Array Value) (n:Nat),K.lookup a=some o/\o.cls=.type "list" /\ o.dict=none/\o.data=.seq B' n/\B'.size<=sizeLine/\aX xs B'.toList
def kM (K:Lb) (H:Hp) (a:Addr) (xs:List V):Prop:=
 Rd H a (.tup xs) \/
  ∃(o:Obj) (B':Array Value) (n:Nat),K.lookup a=some o/\o.cls=.type "tuple" /\ o.data=.seq B' n/\B'.size<=sizeLine/\aX xs B'.toList
noncomputable def JE:Value->Option V
 |.none=>some .non
 |.bool b=>some (.bl b)
 |.int i _=>some (.int i)
 |.str x _=>some (.str x)
 |.bytes b _=>some (.byt b)
 |.float b _=>some (.flt b)
 |.ref a=>some (.ref a)
 |.type n=>some (.ty n)
 |_=>none
variable {u:Value}
theorem bJ.abs {x:V} (r:bJ x u):JE u=some x:=by
 cases x with
 |non=>cases r; rfl
 |bl _=>cases r; rfl
 |int _=>obtain ⟨t,rfl⟩:=r; rfl
 |str _=>obtain ⟨t,rfl⟩:=r; rfl
 |byt _=>obtain ⟨t,rfl⟩:=r; rfl
 |flt _=>obtain ⟨t,rfl⟩:=r; rfl
 |ref _=>cases r; rfl
 |ty _=>cases r; rfl
theorem bJ.inj {x y:V} {u:Value} (r:bJ x u) (q:bJ y u):x=y:=Lw (r.abs.symm.trans q.abs)
theorem aX.inj:∀{xs ys:List V} {us:List Value},aX xs us->aX ys us->xs=ys
 |_,_,_,.nil,.nil=>rfl
 |_,_,_,.cons r t,.cons r' t'=>by rw [r.inj r',aX.inj t t']
section
variable {X:Cx} {pins:List (Addr×Obj)} {σ:St} {H:Hp} {s:Shared} {a:Addr} {xs ys:List V}
theorem eN.of {K:Lb} (h:H a=some (.lst xs)):eN K H a xs:=.inl (.inl h)
theorem kM.of {K:Lb} (h:H a=some (.tup xs)):kM K H a xs:=.inl (.inl h)
theorem Inv.list (I:Inv X pins σ H s) (h:eN X.K H a xs):∃B':List Value,aX xs B'/\PlainL s.heap a B'.toArray/\xs.length<=sizeLine:=by
 rcases h with h|⟨o,B',n,hk,hc,hd,hs,hz,r⟩
 ·obtain ⟨z,B',n,r,e⟩:=h.ok I.hok;exact ⟨B',r,⟨_,n,e,rfl,rfl,rfl⟩,z⟩
 ·refine ⟨B'.toList,r,⟨o,n,I.kIn a o hk,hc,hd,by simpa using hs⟩,?_⟩;have e:=r.length;simp only [Array.length_toList] at e;lia
theorem Inv.tuple (I:Inv X pins σ H s) (h:kM X.K H a xs):∃B':List Value,aX xs B'/\IsTup s.heap a B'.toArray/\xs.length<=sizeLine:=by
 rcases h with h|⟨o,B',n,hk,hc,hs,hz,r⟩
 ·obtain ⟨z,B',r,p⟩:=h.ok I.hok;exact ⟨B',r,p,z⟩
 ·refine ⟨B'.toList,r,⟨o,I.kIn a o hk,hc,n,by simpa using hs⟩,?_⟩;have e:=r.length;simp only [Array.length_toList] at e;lia
theorem Inv.list_inj (I:Inv X pins σ H s) (h:eN X.K H a xs) (h':eN X.K H a ys):xs=ys:=by
 obtain ⟨B',r,⟨o,n,e,_,_,d⟩,_⟩:=I.list h;obtain ⟨its',r',⟨o',n',e',_,_,d'⟩,_⟩:=I.list h';rw [e] at e'; cases e'
 rw [d] at d'
 injection d' with d1 _
 have:B'=its':=by simpa using congrArg Array.toList d1
 subst this;exact r.inj r'
theorem Inv.tuple_inj (I:Inv X pins σ H s) (h:kM X.K H a xs) (h':kM X.K H a ys):xs=ys:=by
 obtain ⟨B',r,⟨o,e,_,n,d⟩,_⟩:=I.tuple h;obtain ⟨its',r',⟨o',e',_,n',d'⟩,_⟩:=I.tuple h';rw [e] at e'; cases e'
 rw [d] at d'
 injection d' with d1 _
 have:B'=its':=by simpa using congrArg Array.toList d1
 subst this;exact r.inj r'
end
noncomputable abbrev Cx.wish (X:Cx) (E:Value->Shared->Prop):Cx:={ X with xe:=E }
noncomputable abbrev Cx.nox (X:Cx):Cx:=X.wish fun _ _=>False
theorem Cx.Ok.wish {X:Cx} (ok:X.Ok) (E:Value->Shared->Prop):(X.wish E).Ok:=
 ⟨ok.mod,ok.kind,ok.glob,ok.blt,ok.above,ok.inj,ok.has,ok.cab,ok.hd,ok.frames,ok.stk,ok.exf,ok.bs,ok.bsz,ok.noex,ok.exfs,ok.funs,ok.frf⟩
theorem Cx.Ok.unwish (ok:(X.wish E).Ok):X.Ok:=
 ⟨ok.mod,ok.kind,ok.glob,ok.blt,ok.above,ok.inj,ok.has,ok.cab,ok.hd,ok.frames,ok.stk,ok.exf,ok.bs,ok.bsz,ok.noex,ok.exfs,ok.funs,ok.frf⟩
section
variable {X:Cx} {pins:List (Addr×Obj)} {σ:St} {H:Hp} {s:Shared} {E:Value->Shared->Prop}
theorem Inv.wish (I:Inv X pins σ H s) (E:Value->Shared->Prop):Inv (X.wish E) pins σ H s:=⟨I.ok.wish E,I.os,I.bare,I.base,I.loc,I.cell,I.free,I.freeC,I.pin,I.hok,I.len⟩
theorem Inv.unwish (I:Inv (X.wish E) pins σ H s):Inv X pins σ H s:=⟨I.ok.unwish,I.os,I.bare,I.base,I.loc,I.cell,I.free,I.freeC,I.pin,I.hok,I.len⟩
theorem SP.unwish {D:Ends} {f:Flow} {s':Shared} (h:SP (X.wish E) pins D f s'):SP X pins D f s':=by
 cases f with
 |next=>obtain ⟨σ',H',I,q⟩:=h; exact ⟨σ',H',I.unwish,q⟩
 |brk=>obtain ⟨σ',H',I,q⟩:=h; exact ⟨σ',H',I.unwish,q⟩
 |cont=>obtain ⟨σ',H',I,q⟩:=h; exact ⟨σ',H',I.unwish,q⟩
 |ret u=>obtain ⟨v,σ',H',I,r,q⟩:=h; exact ⟨v,σ',H',I.unwish,r,q⟩
theorem qQ.nox {st:List Stmt} {t:TS} (h:qQ X.nox st t):qQ X st t:=fun pins s σ H D I hw=>
 wpAny_mono (h pins s σ H D (I.wish _) hw) (fun _ _ q=>q.unwish) fun _ _ z=>False.elim z
end
section
variable {X:Cx} {st:Stmt} {cF:List Stmt} {t u:TS} {e:Expr} {te:TE} {pos:Pos}
def IW:TS:=fun D σ H=>D.nx σ H
def ID (t u:TS):TS:=fun D σ H=>t { D with nx:=u D } σ H
theorem tO:qQ X [] IW:=fun _ _ σ H _ I h=>wpAny_execs_nil ⟨σ,H,I,h⟩
theorem gX (h1:PS X st t) (h2:qQ X cF u):qQ X (st::cF) (ID t u):=by
 intro pins s σ H D I h;refine wpAny_execs_cons (cG (h1 pins s σ H { D with nx:=u D } I h) fun f s1 q=>?_);cases f with
 |next=>
  obtain ⟨σ',H',I',q⟩:=q;exact h2 pins s1 σ' H' D I' q
 |ret v=>exact q
 |brk=>exact q
 |cont=>exact q
theorem ic (h1:PS X st t):qQ X [st] t:=by
 intro pins s σ H D I h;refine wpAny_execs_cons (cG (h1 pins s σ H D I h) fun f s1 q=>?_);cases f with
 |next=>exact wpAny_execs_nil q
 |ret v=>exact q
 |brk=>exact q
 |cont=>exact q
theorem Inv.quiet {pins:List (Addr×Obj)} {σ:St} (I:Inv X pins σ H s):interactive X.env=false:=by simp [interactive,I.ok.kind]
def IT (te:TE):TS:=fun D σ H=>te σ H fun _ H1=>D.nx σ H1
theorem mm (he:PE X e te) (hs:swapsWith e none pos.line X.env=pure false:=by rfl):PS X (.Expr e pos) (IT te):=by
 intro pins s σ H D I h;exact wpAny_Expr_any (cG (he pins s σ H _ I h) fun v s1 ⟨x,H1,I1,r1,q1⟩=>⟨σ,H1,I1,q1⟩) I.quiet hs
def Kb (te:TE):TS:=fun D σ H=>te σ H D.rt
theorem Cb (he:PE X e te):PS X (.Return (some e) pos) (Kb te):=by
 intro pins s σ H D I h;exact wpAny_Return_some (cG (he pins s σ H _ I h) fun v s1 ⟨x,H1,I1,r1,q1⟩=>⟨x,σ,H1,I1,r1,q1⟩)
def JM (c:TT) (t u:TS):TS:=fun D σ H=>c σ H fun b H1=>if b=true then t D σ H1 else u D σ H1
theorem AG {c:Expr} {a b:List Stmt} {tc:TT} (hc:PT X c tc) (ha:qQ X a t) (hb:qQ X b u):PS X (.If c a b pos) (JM tc t u):=by
 intro pins s σ H D I h;refine wpAny_If (cG (hc pins s σ H _ I h) fun d s1 ⟨H1,I1,q1⟩=>?_);cases d with
 |true=>exact ha pins s1 σ H1 D I1 q1
 |false=>exact hb pins s1 σ H1 D I1 q1
end
abbrev TG:=V->St->Hp->(St->Hp->Prop)->Prop
abbrev Dj:=List V->St->Hp->(St->Hp->Prop)->Prop
def PG (X:Cx) (target:Expr) (t:TG):Prop:=
 ∀(pins:List (Addr×Obj)) (s:Shared) (σ:St) (H:Hp) (v:V) (u:Value) (Q:St->Hp->Prop),Inv X pins σ H s->bJ v u->t v σ H Q ->
  wpAny (model X.prog X.w) X.A (assign target X.env u) (fun _ s'=>∃σ' H',Inv X pins σ' H' s'/\Q σ' H') X.xe s
def Jx (X:Cx) (ts:List Expr) (t:Dj):Prop:=
 ∀(pins:List (Addr×Obj)) (s:Shared) (σ:St) (H:Hp) (vs:List V) (us:List Value) (Q:St->Hp->Prop),Inv X pins σ H s->aX vs us->t vs σ H Q ->
  wpAny (model X.prog X.w) X.A (assignInOrder ((assignEach ts X.env).map (·.2)) us) (fun _ s'=>∃σ' H',Inv X pins σ' H' s'/\Q σ' H') X.xe s
section
variable {X:Cx} {pos:Pos}
def nR (i:Nat):TG:=fun v σ H Q=>Q (σ.set i (some v)) H
theorem Fk {i:Nat} {x:Str} (hN:X.N.Nodup) (hi:X.N[i]?=some x) (hx:HW X.env.scope x) (hf:X.fn x=true\/X.env.scope.names.lookup x=some .local:=by first|exact .inl rfl|exact .inr rfl|assumption):PG X (.Name x pos) (nR i):=by
 intro pins s σ H v u Q I r h;exact wpAny_assign_Name (u6 I hN hi hx r (fun s' I'=>⟨_,H,I',h⟩) hf)
def Jc:Dj:=fun vs σ H Q=>vs=[]/\Q σ H
def FF (t:TG) (u:Dj):Dj:=fun vs σ H Q=>∃v r,vs=v::r/\t v σ H fun σ' H'=>u r σ' H' Q
theorem oJ:Jx X [] Jc:=by
 intro pins s σ H vs us Q I r h;obtain ⟨e,h⟩:=h;subst e;cases r;exact assignInOrder_nil ⟨σ,H,I,h⟩
theorem fX {es:List Expr} {t:TG} {u:Dj} (h1:PG X e t) (h2:Jx X es u)
  (hs:(assignEach (e::es) X.env).map (·.2)=assign e X.env::(assignEach es X.env).map (·.2):=by rfl):Jx X (e::es) (FF t u):=by
 intro pins s σ H vs us Q I r h;obtain ⟨v,vr,e1,h⟩:=h;subst e1;cases r with
 |cons r rr=>
  rw [hs];refine assignInOrder_cons (cG (h1 pins s σ H _ _ _ I r h) fun _ s1 ⟨σ1,H1,I1,q1⟩=>?_);exact h2 pins s1 σ1 H1 _ _ Q I1 rr q1
def Ii (K:Lb) (n:Nat) (t:Dj):TG:=fun v σ H Q=>∃a xs,v=.ref a/\kM K H a xs/\xs.length=n/\t xs σ H Q
theorem uB {es:List Expr} {k:Nat} {t:Dj} {n:Nat} (hc:X.calm=true) (h:Jx X es t)
  (hn:(assignEach es X.env).length=n:=by rfl) (M8:(assignEach es X.env).findIdx? (·.1)=none:=by rfl):PG X (.Tuple es k pos) (Ii X.K n t):=by
 intro pins s σ H v u Q I r hw;obtain ⟨a,xs,e1,hq,hl,hw⟩:=hw;subst e1;cases r;obtain ⟨B',rv,ht,hz⟩:=I.tuple hq;refine assign_Tuple_tuple (I.ok.hd hc) ht (by simp [hn,<-hl,rv.length]) M8 fun h' hx=>?_;have I1:Inv X pins σ H { s with heap:=h' }:=I.kept (t':=s.toks) fun b o e=>hx b o (Lu (K5 e)) e;exact h pins _ σ H xs _ Q I1 (by simpa using rv) hw
def F6 (te:TE) (g:TG):TS:=fun D σ H=>te σ H fun x H1=>g x σ H1 D.nx
theorem G0 {tg:Expr} {te:TE} {g:TG} (he:PE X e te) (hg:PG X tg g) (hs:swapsWithSole [tg] e pos.line X.env=pure false:=by rfl) (hw:swappedStores [tg] e X.env=pure none:=by rfl)
  (h1:(assignEach [tg] X.env).map (·.2)=[assign tg X.env]:=by rfl):PS X (.Assign [tg] e pos) (F6 te g):=by
 intro pins s σ H D I h;refine wpAny_Assign_stores (cG (he pins s σ H _ I h) fun v s1 ⟨x,H1,I1,r1,q1⟩=>?_) hs hw;rw [h1];exact cG (hg pins s1 σ H1 x v _ I1 r1 q1) fun _ s2 q=>q
theorem BN {i:Nat} {x:Str} {te:TE} {pos':Pos} (hN:X.N.Nodup) (hi:X.N[i]?=some x) (hx:HW X.env.scope x) (he:PE X e te) (hs:swapsWith e (some (.Name x pos')) pos.line X.env=pure false:=by rfl) (hf:X.fn x=true\/X.env.scope.names.lookup x=some .local:=by first|exact .inl rfl|exact .inr rfl|assumption) :
  PS X (.Assign [.Name x pos'] e pos) (F6 te (nR i)):=by
 intro pins s σ H D I h;refine wpAny_Assign_Name (cG (he pins s σ H _ I h) fun v s1 ⟨y,H1,I1,r1,q1⟩=>?_) hs;exact u6 I1 hN hi hx r1 (fun s2 I2=>⟨_,H1,I2,q1⟩) hf
end
section
variable {X:Cx} {pos:Pos}
end
structure It where
 go:Nat->Hp->Prop
 yld:Nat->Hp->V->Hp->Prop
 stop:Nat->Hp->Prop
def mD (X:Cx) (pins:List (Addr×Obj)) (H:Hp) (b:Addr):Prop:=
 H b=none/\b≠X.env.locals/\b∉X.fs/\(b∈X.ex\/X.s₀.heap.objs.size<=b)/\(∀x c,X.env.cells.lookup x=some c->c≠b)/\∀p∈X.pn++pins,p.1≠b
variable {pins:List (Addr×Obj)} {σ:St}
theorem Inv.fpOk {H':Hp} (I:Inv X pins σ H s) (hb:s.heap.objs.size<=b) (hn:H' b=none):mD X pins H' b:=by
 refine ⟨hn,Nat.ne_of_gt (Lq I.lt hb),I.nofs hb,.inr (Lp I.sz hb),fun x c e z=>?_,fun p hp z=>?_⟩
 ·obtain ⟨v,q⟩:=I.cell x c e;exact absurd (Lq q.lt (by rw [z]; exact hb)) (Nat.lt_irrefl _)
 ·exact absurd (Lq (K5 (I.pin p hp).1) (by rw [z]; exact hb)) (Nat.lt_irrefl _)
structure Turn (P:Program) (w:World) (K:Lb) (tg:Expr) (J:It) (fp:List Addr) (it:Addr) (tn:Nat->Heap->Prop):Prop where
 mem:it∈fp
 obj:∀i h,tn i h->∀b∈fp,∃o,h.get? b=some o/\∀v,o.data≠.cell v
 keep:∀i h h',tn i h->(∀b∈fp,∀o,h.get? b=some o->h'.get? b=some o)->tn i h'
 item:∀(X:Cx),X.prog=P->X.w=w->X.K=K->X.calm=true->∀(i:Nat) (pins:List (Addr×Obj)) (s:Shared) (σ:St) (H:Hp) (E:Value->Shared->Prop),Inv X pins σ H s->(∀b∈fp,mD X pins H b)->tn i s.heap->J.go i H ->
  wpAny (model P w) X.A (pyNext (.ref it)) (fun r s1=>∃u,r=some u /\
   wpAny (model P w) X.A (letOwnedTupleGo tg (.ref it) u) (fun _ s2=>∃x H',Inv X pins σ H' s2/\bJ x u/\J.yld i H x H'/\tn (i+1) s2.heap/\∀b∈fp,H' b=none) E s1) E s
 done:∀(X:Cx),X.prog=P->X.w=w->X.K=K->X.calm=true->∀(i:Nat) (pins:List (Addr×Obj)) (s:Shared) (σ:St) (H:Hp) (E:Value->Shared->Prop),Inv X pins σ H s->(∀b∈fp,mD X pins H b)->tn i s.heap->J.stop i H ->
  wpAny (model P w) X.A (pyNext (.ref it)) (fun r s1=>r=none/\Inv X pins σ H s1) E s
 self:∀(A:Around) (i:Nat) (s:Shared) (Q:Value->Shared->Prop) (E:Value->Shared->Prop),tn i s.heap->Q (.ref it) s->wpAny (model P w) A (pyIter (.ref it)) Q E s
abbrev TI:=St->Hp->(It->Hp->Prop)->Prop
def Kv (X:Cx) (pins:List (Addr×Obj)) (σ:St) (tg:Expr) (R:It->Hp->Prop) (itv:Value) (s2:Shared):Prop:=
 ∃(it:Addr) (fp:List Addr) (tn:Nat->Heap->Prop) (J:It) (H':Hp),itv=.ref it/\Inv X pins σ H' s2/\Turn X.prog X.w X.K tg J fp it tn/\tn 0 s2.heap/\(∀b∈fp,mD X pins H' b)/\R J H'
def PI (X:Cx) (tg iter:Expr) (wi:TI):Prop:=
 ∀(pins:List (Addr×Obj)) (s:Shared) (σ:St) (H:Hp) (R:It->Hp->Prop),Inv X pins σ H s->wi σ H R ->
  wpAny (model X.prog X.w) X.A (eval iter X.env) (fun v s1=>wpAny (model X.prog X.w) X.A (pyIter v) (Kv X pins σ tg R) X.xe s1) X.xe s
variable {tg:Expr}
theorem Ck {M:Model} {it:Addr} {n:String} {vs:Array Value} {Q:Unit->Shared->Prop} (ho:s.heap.get? it=some o) (hc:o.cls=.type n) (hd:o.data=.fields vs)
  (hn:["enumerate", "zip", "dict_itemiterator", "dict_reverseitemiterator", "odict_iterator", "itertools.zip_longest", "itertools.pairwise"].contains n=false) (hQ:Q () s):wpAny M A (letOwnedTupleGo tg (.ref it) u) Q E s:=by
 unfold letOwnedTupleGo;cases tg <;> first
  |exact K4 hQ
  |(cases u <;> first
    |exact K4 hQ
    |(refine K3 (wpAny_load ho ?_); rw [hc,hd]; show wpAny M A (if (["enumerate", "zip", "dict_itemiterator", "dict_reverseitemiterator", "odict_iterator", "itertools.zip_longest", "itertools.pairwise"].contains n&&vs[0]?==some (rawInt _))=true then _ else _) Q E s; rw [if_neg (by intro h; rw [hn,Bool.false_and] at h; cases h)]; exact K4 hQ))
noncomputable def J7 (K:Lb) (a:Addr):It:=
 ⟨fun i H=>∃xs x,eN K H a xs/\xs[i]?=some x,fun i H x H'=>H'=H/\∀xs,eN K H a xs->xs[i]?=some x,fun i H=>∃xs,eN K H a xs/\xs.length<=i⟩
noncomputable def JA (K:Lb) (a:Addr):It:=
 ⟨fun i H=>∃xs x,kM K H a xs/\xs[i]?=some x,fun i H x H'=>H'=H/\∀xs,kM K H a xs->xs[i]?=some x,fun i H=>∃xs,kM K H a xs/\xs.length<=i⟩
noncomputable def IQ (lo:Int) (n:Nat):It:=⟨fun i _=>i<n,fun i H x H'=>H'=H/\x=.int (lo+i),fun i _=>n<=i⟩
variable {K:Lb}
theorem Ao (a it:Addr):Turn P w K tg (J7 K a) [it] it (fun i h=>h.IsListIter it a i) where
 mem:=by simp
 obj:=fun i h st b hb=>by
  have e:b=it:=by simpa using hb
  subst e;obtain ⟨o,e,c,d⟩:=st;exact ⟨o,e,fun v z=>by rw [d] at z; cases z⟩
 keep:=fun i h h' st k=>st.at fun o e=>k it 0x4 o e
 item:=by
  intro X hP hw hK hc i pins s σ H E I hf st hg;subst hP hw hK;obtain ⟨xs,x,hq,hx⟩:=hg;obtain ⟨B',rv,p,hz⟩:=I.list hq;obtain ⟨u,hu,ru⟩:=rv.get hx;obtain ⟨f0,f1,f2,f3,f4,f5⟩:=hf it 0x4;refine wpAny_pyNext_list_item st p.isList (x:=u) (by simpa using hu) fun h' D' sb=>?_;have I1:Inv X pins σ H { s with heap:=h' }:=I.turned (t':=s.toks) (fun b o hb e=>(sb.2 b hb).trans e) f0 f1 f3 f4 f5;obtain ⟨o,e,c,d⟩:=id D';exact ⟨u,rfl,Ck (s:={ s with heap:=h' }) e c d 0x3 ⟨x,H,I1,ru,⟨rfl,fun ys hy=>by rw [I.list_inj hy hq]; exact hx⟩,D',fun b hb=>(hf b hb).1⟩⟩
 done:=by
  intro X hP hw hK hc i pins s σ H E I hf st hg;subst hP hw hK;obtain ⟨xs,hq,hx⟩:=hg;obtain ⟨B',rv,p,hz⟩:=I.list hq;obtain ⟨f0,f1,f2,f3,f4,f5⟩:=hf it 0x4;have hl:=rv.length;exact wpAny_pyNext_list_end (I.ok.hd hc) st p.isList (by simp; lia) fun h' eb=>⟨rfl,I.turned (t':=s.toks) (fun b o hb e=>eb b o hb e) f0 f1 f3 f4 f5⟩
 self:=fun _ _ _ _ _ st h=>wpAny_pyIter_listiter st h
theorem w9 (a it:Addr):Turn P w K tg (JA K a) [it] it (fun i h=>h.IsTupleIter it a i) where
 mem:=by simp
 obj:=fun i h st b hb=>by
  have e:b=it:=by simpa using hb
  subst e;obtain ⟨o,e,c,d⟩:=st;exact ⟨o,e,fun v z=>by rw [d] at z; cases z⟩
 keep:=fun i h h' st k=>st.at fun o e=>k it 0x4 o e
 item:=by
  intro X hP hw hK hc i pins s σ H E I hf st hg;subst hP hw hK;obtain ⟨xs,x,hq,hx⟩:=hg;obtain ⟨B',rv,p,hz⟩:=I.tuple hq;obtain ⟨u,hu,ru⟩:=rv.get hx;obtain ⟨f0,f1,f2,f3,f4,f5⟩:=hf it 0x4;refine wpAny_pyNext_tuple_item st (show s.heap.IsTuple a B'.toArray from p) (x:=u) (by simpa using hu) fun h' D' sb=>?_;have I1:Inv X pins σ H { s with heap:=h' }:=I.turned (t':=s.toks) (fun b o hb e=>(sb.2 b hb).trans e) f0 f1 f3 f4 f5;obtain ⟨o,e,c,d⟩:=id D';exact ⟨u,rfl,Ck (s:={ s with heap:=h' }) e c d 0x3 ⟨x,H,I1,ru,⟨rfl,fun ys hy=>by rw [I.tuple_inj hy hq]; exact hx⟩,D',fun b hb=>(hf b hb).1⟩⟩
 done:=by
  intro X hP hw hK hc i pins s σ H E I hf st hg;subst hP hw hK;obtain ⟨xs,hq,hx⟩:=hg;obtain ⟨B',rv,p,hz⟩:=I.tuple hq;obtain ⟨f0,f1,f2,f3,f4,f5⟩:=hf it 0x4;have hl:=rv.length;exact wpAny_pyNext_tuple_end (I.ok.hd hc) st (show s.heap.IsTuple a B'.toArray from p) (by simp; lia) fun h' eb=>⟨rfl,I.turned (t':=s.toks) (fun b o hb e=>eb b o hb e) f0 f1 f3 f4 f5⟩
 self:=fun _ _ _ _ _ st h=>wpAny_pyIter_tupleiter st h
theorem xv (it:Addr) (lo:Int) (n:Nat):Turn P w K tg (IQ lo n) [it] it (fun i h=>IsRangeIter h it (lo+(i:Nat)*1) ((n:Int)-(i:Nat)) 1) where
 mem:=by simp
 obj:=fun i h st b hb=>by
  have e:b=it:=by simpa using hb
  subst e;exact ⟨_,st,fun v z=>by
   have z':Data.fields _=Data.cell v:=z;cases z'⟩
 keep:=fun i h h' st k=>k it 0x4 _ st
 item:=by
  intro X hP hw hK hc i pins s σ H E I hf st hg;subst hP hw hK;obtain ⟨f0,f1,f2,f3,f4,f5⟩:=hf it 0x4;have W:=Walks.range (prog:=X.prog) (w:=X.w) (I.ok.hd hc) it lo 1 n;refine W.item i s _ _ hg st fun v h' tk hv D' kk=>?_;obtain ⟨t,rfl⟩:=hv;have I1:Inv X pins σ H { s with heap:=h',toks:=tk }:=I.turned (fun b o hb e=>kk b o (by simpa using hb) e) f0 f1 f3 f4 f5;refine ⟨_,rfl,Ck (s:={ s with heap:=h',toks:=tk }) (n:= "range_iterator") D' rfl rfl 0x3 ⟨.int (lo+i),H,I1,⟨t,?_⟩,⟨rfl,rfl⟩,D',fun b hb=>(hf b hb).1⟩⟩;rw [Int.mul_one]
 done:=by
  intro X hP hw hK hc i pins s σ H E I hf st hg;subst hP hw hK;obtain ⟨f0,f1,f2,f3,f4,f5⟩:=hf it 0x4;exact wpAny_pyNext_range_end (I.ok.hd hc) st (by have:n<=i:=hg; lia) fun h' eb=>⟨rfl,I.turned (t':=s.toks) (fun b o hb e=>eb b o hb e) f0 f1 f3 f4 f5⟩
 self:=fun _ _ _ _ _ st h=>wpAny_pyIter_rangeiter st h
section
variable {X:Cx} {tg:Expr}
def Jd (K:Lb) (tl:TE):TI:=fun σ H R=>tl σ H fun x H1=>∃a,x=.ref a/\(∃xs,eN K H1 a xs)/\R (J7 K a) H1
def J2 (K:Lb) (tl:TE):TI:=fun σ H R=>tl σ H fun x H1=>∃a,x=.ref a/\(∃xs,kM K H1 a xs)/\R (JA K a) H1
theorem yV {l:Expr} {tl:TE} (hl:PE X l tl):PI X tg l (Jd X.K tl):=by
 intro pins s σ H R I h;refine cG (hl pins s σ H _ I h) fun v s1 ⟨x,H1,I1,r1,q1⟩=>?_;obtain ⟨a,e,⟨xs,hq⟩,q⟩:=q1;subst e;cases r1;obtain ⟨B',rv,p,hz⟩:=I1.list hq;refine wpAny_pyIter_list p.isList ?_;refine ⟨s1.heap.objs.size,[s1.heap.objs.size],_,_,H1,rfl,I1.kept (t':=s1.toks) fun b o e=>KW _ e,Ao a _,⟨_,Lv _ rfl,rfl,rfl⟩,fun b hb=>?_,q⟩;have e:b=s1.heap.objs.size:=by simpa using hb
 subst e;exact I1.fpOk (K2 _) (I1.hok.fresh (K2 _))
theorem Hm {l:Expr} {tl:TE} (hl:PE X l tl):PI X tg l (J2 X.K tl):=by
 intro pins s σ H R I h;refine cG (hl pins s σ H _ I h) fun v s1 ⟨x,H1,I1,r1,q1⟩=>?_;obtain ⟨a,e,⟨xs,hq⟩,q⟩:=q1;subst e;cases r1;obtain ⟨B',rv,p,hz⟩:=I1.tuple hq;refine wpAny_pyIter_tuple (show s1.heap.IsTuple a B'.toArray from p) ?_;refine ⟨s1.heap.objs.size,[s1.heap.objs.size],_,_,H1,rfl,I1.kept (t':=s1.toks) fun b o e=>KW _ e,w9 a _,⟨_,Lv _ rfl,rfl,rfl⟩,fun b hb=>?_,q⟩;have e:b=s1.heap.objs.size:=by simpa using hb
 subst e;exact I1.fpOk (K2 _) (I1.hok.fresh (K2 _))
theorem vq {R:It->Hp->Prop} {lo hi:Int} {t u v:Tok} {tk:Nat} (I:Inv X pins σ H s) (h1:-(2 ^ 62)<=lo) (h2:lo<2 ^ 62) (h3:-(2 ^ 62)<=hi) (h4:hi<2 ^ 62)
  (q:R (IQ lo (hi-lo).toNat) H):wpAny (model X.prog X.w) X.A (pyIter (.ref s.heap.objs.size)) (Kv X pins σ tg R) E { s with heap:=s.heap.push { cls:=.type "range",data:=.fields #[.int lo t,.int hi u,.int 1 v] },toks:=tk }:=by
 refine wpAny_pyIter_range (IsRange.new ..) (small_one h1 h2 h3 h4) ?_;have I1:Inv X pins σ H { s with heap:=s.heap.push { cls:=.type "range",data:=.fields #[.int lo t,.int hi u,.int 1 v] },toks:=tk }:=I.kept fun b o e=>KW _ e;refine ⟨(s.heap.push { cls:=.type "range",data:=.fields #[.int lo t,.int hi u,.int 1 v] }).objs.size,[(s.heap.push { cls:=.type "range",data:=.fields #[.int lo t,.int hi u,.int 1 v] }).objs.size],_,_,H,rfl,
  I1.kept (t':=tk) fun b o e=>KW _ e,xv _ lo (hi-lo).toNat,?_,fun b hb=>?_,q⟩
 ·have e1:lo+((0:Nat):Int)*1=lo:=by simp
  have e2:(((hi-lo).toNat:Nat):Int)-((0:Nat):Int)=Builtin.Range.rangeSize lo hi 1:=by rw [rangeSize_one]; split <;> lia
  show IsRangeIter _ _ (lo+((0:Nat):Int)*1) ((((hi-lo).toNat:Nat):Int)-((0:Nat):Int)) 1;rw [e1,e2];exact Lv _ rfl
 ·have e:b=(s.heap.push { cls:=.type "range",data:=.fields #[.int lo t,.int hi u,.int 1 v] }).objs.size:=by simpa using hb
  subst e;exact I1.fpOk (K2 _) (I1.hok.fresh (K2 _))
def Ih (ta:TA):TI:=fun σ H R=>ta σ H fun vs H1=>∃j:Int,vs=[.int j]/\-(2 ^ 62)<=j/\j<2 ^ 62/\R (IQ 0 j.toNat) H1
def Jj (ta:TA):TI:=fun σ H R=>ta σ H fun vs H1=>∃i j:Int,vs=[.int i,.int j]/\(-(2 ^ 62)<=i/\i<2 ^ 62/\-(2 ^ 62)<=j/\j<2 ^ 62)/\R (IQ i (j-i).toNat) H1
variable {pos:Pos}
theorem zX {a:Expr} {ta:TA} {p:Pos} (hg:Gl X "range") (hm:X.mg "range" = none) (ha:PA X [a] ta) (hs:starEach [a] X.env=[(false,eval a X.env)]:=by rfl):PI X tg (.Call (.Name "range" p) [a] [] pos) (Ih ta):=by
 intro pins s σ H R I h;refine Call_ (lj I hg hm boot_range (PyProof.Rows.callWith_type1 (cG (ha pos pins s σ H _ I h) fun us s1 ⟨vs,H1,I1,r1,q1⟩=>?_) hs rfl));obtain ⟨j,e,q1,q2,q⟩:=q1;subst e;cases r1 with
 |cons r rr=>
  cases rr;obtain ⟨t,rfl⟩:=r;exact call_range_1 (vq I1 0x1 0x1 q1 q2 (by simpa using q))
theorem zM {a b:Expr} {ta:TA} {p:Pos} (hg:Gl X "range") (hm:X.mg "range" = none) (ha:PA X [a,b] ta) (hs:starEach [a,b] X.env=[(false,eval a X.env),(false,eval b X.env)]:=by rfl) (M3:starEach [b] X.env=[(false,eval b X.env)]:=by rfl) :
  PI X tg (.Call (.Name "range" p) [a,b] [] pos) (Jj ta):=by
 intro pins s σ H R I h;refine Call_ (lj I hg hm boot_range (PyProof.Rows.callWith_type1 (cG (ha pos pins s σ H _ I h) fun us s1 ⟨vs,H1,I1,r1,q1⟩=>?_) (by rw [hs,M3]) (by rw [M3]; rfl)));obtain ⟨i,j,e,⟨q1,q2,q3,q4⟩,q⟩:=q1;subst e;cases r1 with
 |cons r rr=>
  cases rr with
  |cons r' rr=>
   cases rr;obtain ⟨t,rfl⟩:=r;obtain ⟨t',rfl⟩:=r';exact call_range_2 (vq I1 q1 q2 q3 q4 q)
def Ke (wi:TI) (g:TG) (tb:TS):TS:=fun D σ H=>wi σ H fun J H1=>∃W:Nat->Nat->St->Hp->Prop,(∃m,W 0 m σ H1)/\∀i m σ H,W i m σ H ->
 (J.stop i H/\D.nx σ H)\/(J.go i H/\∃N:St->Hp->Prop,(∀σ' H',N σ' H'->∃m',m'<m/\W (i+1) m' σ' H')/\∀x H',J.yld i H x H'->g x σ H' fun σ2 H2=>tb { D with nx:=N,ct:=N,bk:=D.nx } σ2 H2)
noncomputable def mZ (fp:List Addr) (h:Heap):List (Addr×Obj):=fp.filterMap fun b=>(h.get? b).map fun o=>(b,o)
variable {fp:List Addr}
theorem je (hb:b∈fp) (e:h.get? b=some o):(b,o)∈mZ fp h:=List.mem_filterMap.mpr ⟨b,hb,by rw [e]; rfl⟩
theorem zC {p:Addr×Obj} (hp:p∈mZ fp h):p.1∈fp/\h.get? p.1=some p.2:=by
 obtain ⟨b,hb,e⟩:=List.mem_filterMap.mp hp;cases q:h.get? b with
 |none=>rw [q] at e; cases e
 |some o=>
  rw [q] at e;have e':(b,o)=p:=Lw e;subst e';exact ⟨hb,q⟩
theorem Inv.pinned (I:Inv X pins σ H s) (hf:∀b∈fp,mD X pins H b) (ho:∀b∈fp,∃o,s.heap.get? b=some o/\∀v,o.data≠.cell v):Inv X (pins++mZ fp s.heap) σ H s:=
 I.pins_of fun p hp=>(Ld.mp hp).elim (fun z=>I.pin p (KY _ z)) fun z=>by
  obtain ⟨hb,e⟩:=zC z;obtain ⟨f0,f1,f2,_⟩:=hf p.1 hb;obtain ⟨o,e',d⟩:=ho p.1 hb;rw [e] at e'; cases e'
  exact ⟨e,f0,f1,f2,d⟩
theorem Inv.unpinned {pl:List (Addr×Obj)} (I:Inv X (pins++pl) σ H s):Inv X pins σ H s:=I.pins_of fun p hp=>I.pin p (KY _ (KZ _ hp))
theorem ub {iter:Expr} {body:List Stmt} {wi:TI} {g:TG} {tb:TS} (hp:PassesOwn (model X.prog X.w) X.A X.env X.xe) (hc:X.calm=true) (hi:PI X tg iter wi) (hg:PG X tg g) (hb:qQ X body tb)
  (hs:∀x,foldedSetIterable iter X.env x=pure x:=by intro _; rfl):PS X (.For tg iter body [] pos) (Ke wi g tb):=by
 intro pins s σ H D I h;refine wpAny_For (cG (hi pins s σ H _ I h) fun v s1 h1=>cG h1 fun itv s2 h2=>?_) hs;obtain ⟨it,fp,tn,J,H2,e,I2,T,LH,f2,W,⟨m0,w0⟩,turn⟩:=h2;subst e;have Mj:∀{H':Hp},(∀b∈fp,H' b=none)->∀b∈fp,mD X pins H' b:=fun hn b hb=>⟨hn b hb,(f2 b hb).2⟩;refine codeAny_forLoop_any (fun n s'=>∃i σ' H',Inv X pins σ' H' s'/\tn i s'.heap/\(∀b∈fp,H' b=none)/\W i n σ' H') ?_ m0 ⟨0,σ,H2,I2,LH,fun b hb=>(f2 b hb).1,w0⟩;rintro n s3 ⟨i,σ3,H3,I3,L',fr3,w3⟩;rcases turn i n σ3 H3 w3 with ⟨stop,qn⟩|⟨go,N,hN,step⟩
 ·refine wpAny_passesOwn hp (cG (T.done X rfl rfl rfl hc i pins s3 σ3 H3 X.xe I3 (Mj fr3) L' stop) fun r s4 ⟨hr,I4⟩=>?_);subst hr;exact wpAny_execs_nil ⟨σ3,H3,I4,qn⟩
 ·refine wpAny_passesOwn hp (cG (T.item X rfl rfl rfl hc i pins s3 σ3 H3 X.xe I3 (Mj fr3) L' go) fun r s4 ⟨u,hr,h4⟩=>?_);subst hr;refine wpAny_passesOwn hp (cG h4 fun _ s5 ⟨x,H5,I5,r5,y5,Nr,fr5⟩=>?_);have I5':=I5.pinned (Mj fr5) (T.obj _ _ Nr);refine wpAny_passesOwn hp (cG (hg _ s5 σ3 H5 x u _ I5' r5 (step x H5 y5)) fun _ s6 ⟨σ6,H6,I6,q6⟩=>?_);refine wpAny_passesOwn hp (cG (hb _ s6 σ6 H6 _ I6 q6) fun f s7 q7=>?_);have again:∀{σ7:St} {H7:Hp},Inv X (pins++mZ fp s5.heap) σ7 H7 s7->N σ7 H7->∃m,m<n/\∃i σ' H',Inv X pins σ' H' s7/\tn i s7.heap/\(∀b∈fp,H' b=none)/\W i m σ' H':=fun {σ7 H7} I7 n7=>by
   obtain ⟨m',hm,w7⟩:=hN σ7 H7 n7;refine ⟨m',hm,i+1,σ7,H7,I7.unpinned,T.keep _ _ _ Nr fun b hb o e=>(I7.pin (b,o) (KY _ (KY _ (je hb e)))).1,fun b hb=>?_,w7⟩;obtain ⟨o,e,d⟩:=T.obj _ _ Nr b hb;exact (I7.pin (b,o) (KY _ (KY _ (je hb e)))).2.1
  cases f with
  |next=>obtain ⟨σ7,H7,I7,n7⟩:=q7; exact again I7 n7
  |cont=>obtain ⟨σ7,H7,I7,n7⟩:=q7; exact again I7 n7
  |brk=>obtain ⟨σ7,H7,I7,q7⟩:=q7; exact ⟨σ7,H7,I7.unpinned,q7⟩
  |ret v=>obtain ⟨x7,σ7,H7,I7,r7,q7⟩:=q7; exact ⟨x7,σ7,H7,I7.unpinned,r7,q7⟩
end
abbrev R2:=V->V->Hp->VK->Prop
def uM (X:Cx) (f:Value->Value->Sem Value) (r:R2):Prop:=
 ∀(pins:List (Addr×Obj)) (s:Shared) (σ:St) (H:Hp) (x y:V) (v u:Value) (Q:VK),Inv X pins σ H s->bJ x v->bJ y u->r x y H Q ->
  wpAny (model X.prog X.w) X.A (f v u) (EP X pins σ Q) X.xe s
def l7 (X:Cx) (f:Value) (r:List V->Hp->VK->Prop):Prop:=
 ∀(pins:List (Addr×Obj)) (s:Shared) (σ:St) (H:Hp) (xs:List V) (us:List Value) (Q:VK),Inv X pins σ H s->aX xs us->r xs H Q ->
  wpAny (model X.prog X.w) X.A (call f us) (EP X pins σ Q) X.xe s
def Kc (X:Cx) (r:V->Hp->(Bool->Hp->Prop)->Prop):Prop:=
 ∀(pins:List (Addr×Obj)) (s:Shared) (σ:St) (H:Hp) (x:V) (v:Value) (Q:Bool->Hp->Prop),Inv X pins σ H s->bJ x v->r x H Q ->
  wpAny (model X.prog X.w) X.A (truthy v) (TP X pins σ Q) X.xe s
def KP (r:R2) (ta tb:TE):TE:=fun σ H Q=>ta σ H fun x H1=>tb σ H1 fun y H2=>r x y H2 Q
noncomputable def rI (C:Int->Int->Prop) (g:Int->Int->V):R2:=fun x y H Q=>∃i j,x=.int i/\y=.int j/\C i j/\Q (g i j) H
noncomputable def Fc (g:Int->Int->V):R2:=fun x y H Q=>∃i j,x=.int i/\y=.int j/\Q (g i j) H
section
variable {X:Cx} {a b c:Expr} {ta tb tc:TE} {pos:Pos}
variable {f:Value->Value->Sem Value}
theorem JH (ha:PE X a ta) (hb:PE X b tb) {R:V->V->Hp->Prop} (I:Inv X pins σ H s)
  (h:ta σ H fun x H1=>tb σ H1 fun y H2=>R x y H2) {Q:Value->Shared->Prop} 
  (hf:∀v u s2 x y H2,Inv X pins σ H2 s2->bJ x v->bJ y u->R x y H2->wpAny (model X.prog X.w) X.A (f v u) Q X.xe s2) :
  wpAny (model X.prog X.w) X.A (eval a X.env) (fun v s₁=>wpAny (model X.prog X.w) X.A (eval b X.env) (fun u s₂=>wpAny (model X.prog X.w) X.A (f v u) Q X.xe s₂) X.xe s₁) X.xe s:=by
 refine cG (ha pins s σ H _ I h) fun v s1 ⟨x,H1,I1,r1,q1⟩=>?_;refine cG (hb pins s1 σ H1 _ I1 q1) fun u s2 ⟨y,H2,I2,r2,q2⟩=>?_;exact hf v u s2 x y H2 I2 r1 r2 q2
theorem JP {C:Int->Int->Prop} {g:Int->Int->Int}
  (rule:∀(i j:Int) (t u:Tok) (s:Shared) (Q:Value->Shared->Prop) (E:Value->Shared->Prop),C i j->Q (.int (g i j) s.toks) { s with toks:=s.toks+1 }->wpAny (model X.prog X.w) X.A (f (.int i t) (.int j u)) Q E s) :
  uM X f (rI C fun i j=>.int (g i j)):=by
 intro pins s σ H x y v u Q I rx ry h;obtain ⟨i,j,rfl,rfl,hc,q⟩:=h;obtain ⟨t,rfl⟩:=rx;obtain ⟨t',rfl⟩:=ry;exact rule i j t t' s _ _ hc ⟨.int (g i j),H,I.tok _,⟨_,rfl⟩,q⟩
theorem Ij {g:Int->Int->Int}
  (rule:∀(i j:Int) (t u:Tok) (s:Shared) (Q:Value->Shared->Prop) (E:Value->Shared->Prop),Q (.int (g i j) s.toks) { s with toks:=s.toks+1 }->wpAny (model X.prog X.w) X.A (f (.int i t) (.int j u)) Q E s) :
  uM X f (Fc fun i j=>.int (g i j)):=by
 intro pins s σ H x y v u Q I rx ry h;obtain ⟨i,j,rfl,rfl,q⟩:=h;obtain ⟨t,rfl⟩:=rx;obtain ⟨t',rfl⟩:=ry;exact rule i j t t' s _ _ ⟨.int (g i j),H,I.tok _,⟨_,rfl⟩,q⟩
theorem Eu {g:Int->Int->Bool}
  (rule:∀(i j:Int) (t u:Tok) (s:Shared) (Q:Value->Shared->Prop) (E:Value->Shared->Prop),Q (.bool (g i j)) s->wpAny (model X.prog X.w) X.A (f (.int i t) (.int j u)) Q E s) :
  uM X f (Fc fun i j=>.bl (g i j)):=by
 intro pins s σ H x y v u Q I rx ry h;obtain ⟨i,j,rfl,rfl,q⟩:=h;obtain ⟨t,rfl⟩:=rx;obtain ⟨t',rfl⟩:=ry;exact rule i j t t' s _ _ ⟨.bl (g i j),H,I,rfl,q⟩
def Ia (i j:Int):Prop:=0<j/\j<1073741824
def E9 (i j:Int):Prop:=(-(2 ^ 64)<i/\i<2 ^ 64)\/(-(2 ^ 64)<j/\j<2 ^ 64)
theorem E9.ok {i j:Int} (h:E9 i j):IntMulOk i j:=by
 rcases h with ⟨h1,h2⟩|⟨h1,h2⟩
 ·exact .of_left (intBits_le_64 h1 h2)
 ·exact .of_right (intBits_le_64 h1 h2)
theorem Gp:uM X (binaryOp .Add) (Fc fun i j=>.int (i+j)):=Ij fun _ _ _ _ _ _ _ q=>add_int q
theorem HQ:uM X (binaryOp .Sub) (Fc fun i j=>.int (i-j)):=Ij fun _ _ _ _ _ _ _ q=>sub_int q
theorem Gd:uM X (binaryOp .Mult) (rI E9 fun i j=>.int (i*j)):=JP fun _ _ _ _ _ _ _ hc q=>mul_int q hc.ok
theorem E1:uM X (binaryOp .FloorDiv) (rI Ia fun i j=>.int (i / j)):=JP fun i j _ _ _ _ _ hc q=>by
 have h1:(0:Int)<j:=hc.1;have h2:j<1073741824:=hc.2;exact floordiv_int 0x1 (by rw [Int.fdiv_eq_ediv_of_nonneg i 0x1]; exact q) (.inl (PyProof.noPylong_small 0x1))
theorem Hz:uM X (binaryOp .Mod) (rI (fun _ j=>0<j) fun i j=>.int (i % j)):=JP fun i j _ _ _ _ _ hc q=>by
 have h1:(0:Int)<j:=hc;exact mod_int' 0x1 (by rw [Int.fmod_eq_emod_of_nonneg i 0x1]; exact q)
end
section
variable {X:Cx} {a b c:Expr} {ta tb tc:TE} {pos:Pos}
theorem Il:uM X (compareOp .Lt) (Fc fun i j=>.bl (decide (i<j))):=Eu fun _ _ _ _ _ _ _ q=>lt_int q
theorem Jk:uM X (compareOp .LtE) (Fc fun i j=>.bl (decide (i<=j))):=Eu fun _ _ _ _ _ _ _ q=>le_int q
theorem Jh:uM X (compareOp .Gt) (Fc fun i j=>.bl (decide (j<i))):=Eu fun _ _ _ _ _ _ _ q=>gt_int q
theorem IK:uM X (compareOp .GtE) (Fc fun i j=>.bl (decide (j<=i))):=Eu fun _ _ _ _ _ _ _ q=>ge_int q
theorem AJ (b:Expr) {op:CmpOp} (h:op≠.In:=by decide) (h2:op≠.NotIn:=by decide):behindInMarks op b=false:=by
 have e1:(op==CmpOp.In)=false:=by cases op <;> first|rfl|exact absurd rfl h
 have e2:(op==CmpOp.NotIn)=false:=by cases op <;> first|rfl|exact absurd rfl h2
 cases b <;> simp [behindInMarks,e1,e2]
def IS (K:Lb) (x:V) (H:Hp) (k:Bool):Prop:=
 match x with
 |.non=>k=false
 |.bl b=>k=b
 |.int i=>k=(i != 0)
 |.str y=>y.length<=sizeLine/\k=((y.length:Int) != 0)
 |.byt y=>y.size<=sizeLine/\k=((y.size:Int) != 0)
 |.ref p=>(∃xs,eN K H p xs/\k=!xs.isEmpty)\/(∃xs,kM K H p xs/\k=!xs.isEmpty)\/∃kvs,H p=some (.dK kvs)/\k=!kvs.isEmpty
 |_=>False
theorem wF {κ:Type} {kvs:List (κ×V)} {vs:List (κ×Value)} (r:KV kvs vs):(!vs.isEmpty)=!kvs.isEmpty:=by
 cases r <;> rfl
theorem pC {xs:List V} {B':List Value} (r:aX xs B'):(!B'.toArray.isEmpty)=!xs.isEmpty:=by
 cases r <;> simp
theorem qz:(sizeLine:Nat)<2 ^ 63:=by rw [sizeLine_eq]; decide
theorem FY:Kc X (fun x H Q=>∃k,IS X.K x H k/\Q k H):=by
 intro pins s σ H x v Q I rx h;obtain ⟨k,e,q⟩:=h;have hl:=qz;have hs:sizeLine=16777216:=sizeLine_eq;cases x with
 |non=>
  cases rx;have e':k=false:=e;subst e';exact truthy_none ⟨H,I,q⟩
 |bl b=>
  cases rx;have e':k=b:=e;subst e';exact wpAny_truthy_bool ⟨H,I,q⟩
 |int i=>
  obtain ⟨t,rfl⟩:=rx;have e':k=(i != 0):=e;subst e';exact PySem.P.truthy_int ⟨H,I,q⟩
 |str y=>
  obtain ⟨t,rfl⟩:=rx;obtain ⟨hy,e'⟩:y.length<=sizeLine/\k=((y.length:Int) != 0):=e;subst e';exact PySem.P.truthy_str 0x1 ⟨H,I.tok _,q⟩
 |byt y=>
  obtain ⟨t,rfl⟩:=rx;obtain ⟨hy,e'⟩:y.size<=sizeLine/\k=((y.size:Int) != 0):=e;subst e';exact PySem.W.truthy_bytes 0x1 ⟨H,I.tok _,q⟩
 |ref p=>
  cases rx;have e':(∃xs,eN X.K H p xs/\k=!xs.isEmpty)\/(∃xs,kM X.K H p xs/\k=!xs.isEmpty)\/∃kvs,H p=some (.dK kvs)/\k=!kvs.isEmpty:=e;rcases e' with ⟨xs,hx,e'⟩|⟨xs,hx,e'⟩|⟨kvs,hx,e'⟩
  ·subst e';obtain ⟨B',r,pl,hz⟩:=I.list hx;have hlen:=r.length;exact wpAny_truthy_list pl.isList (by simp only [List.size_toArray]; lia) ⟨H,I.tok _,by rw [pC r]; exact q⟩
  ·subst e';obtain ⟨B',r,pl,hz⟩:=I.tuple hx;have hlen:=r.length;exact truthy_tuple pl (by simp only [List.size_toArray]; lia) ⟨H,I.tok _,by rw [pC r]; exact q⟩
  ·subst e';obtain ⟨hz,hS,vs,r,m⟩:kvs.length<=sizeLine/\(p==sysModules)=false/\∃vs,KV kvs vs/\s.heap.DictOf (uI X.prog X.w) p vs:=I.hok p _ hx;have hlen:kvs.length=vs.length:=Paired.length r;exact wpAny_truthy_dict hS m 0x1 ⟨H,I.tok _,by rw [wF r]; exact q⟩
 |_=>exact (show False from e).elim
theorem Bd (ha:PE X a ta) (he:∀whole,isTrue a X.env whole=(do let v <-whole; standAt a.pos; holding [v] (truthy v))) :
  PT X a (fun σ H Q=>ta σ H fun x H'=>∃k,IS X.K x H' k/\Q k H'):=by
 intro pins s σ H Q I h;exact isTrue_plain (cG (ha pins s σ H _ I h) fun v s1 ⟨x,H1,I1,r1,q1⟩=>FY pins s1 σ H1 x v Q I1 r1 q1) (he _)
theorem pq {x:V} {us:List Value} (r:aX [x] us):∃u,us=[u]/\bJ x u:=by
 cases r with
 |cons r1 r2=>cases r2; exact ⟨_,rfl,r1⟩
theorem HZ {x y:V} {us:List Value} (r:aX [x,y] us):∃u w',us=[u,w']/\bJ x u/\bJ y w':=by
 cases r with
 |cons r1 r2=>
  cases r2 with
  |cons r3 r4=>cases r4; exact ⟨_,_,rfl,r1,r3⟩
theorem zu (hc:X.calm=true):l7 X (.builtin "min") (fun xs H Q=>∃i j,xs=[.int i,.int j]/\Q (.int (if j<i then j else i)) H):=by
 intro pins s σ H xs us Q I r h;obtain ⟨i,j,rfl,q⟩:=h;obtain ⟨u,w',rfl,⟨t,rfl⟩,⟨t',rfl⟩⟩:=HZ r;refine min_two_ints (I.ok.hd hc) fun h' tk k=>⟨_,H,I.kept k,?_,q⟩;by_cases hj:j<i
 ·rw [if_pos hj,if_pos hj]; exact ⟨_,rfl⟩
 ·rw [if_neg hj,if_neg hj]; exact ⟨_,rfl⟩
theorem zO:l7 X (.type "int") (fun xs H Q=>(∃i,xs=[.int i]/\Q (.int i) H)\/∃k,xs=[.bl k]/\Q (.int (if k then 1 else 0)) H):=by
 intro pins s σ H xs us Q I r h;rcases h with ⟨i,rfl,q⟩|⟨k,rfl,q⟩
 ·obtain ⟨u,rfl,t,rfl⟩:=pq r;exact call_int_int ⟨.int i,H,I,⟨_,rfl⟩,q⟩
 ·obtain ⟨u,rfl,r1⟩:=pq r;cases r1;exact call_int_bool ⟨.int (if k then 1 else 0),H,I.tok _,⟨_,rfl⟩,q⟩
end
structure ObjM (h:Heap) (x dx C:Addr) (mA:Str->Option Value):Prop where
 obj:h.get? x=some (PySem.W.instObj C dx)
 ns:h.Ns1 dx mA
 ne:dx≠x
theorem zB {dx:Addr} {mA:Str->Option Value} (n:h.Ns1 dx mA):∃od,h.get? dx=some od/\∀name,PySem.W.lookIn name od=some (mA name):=by
 obtain ⟨o,es,ep,ho,hd,hk,_,hm⟩:=n;refine ⟨o,ho,fun name=>?_⟩;have e:=hm name;unfold nsFind findBy at e;rw [<-Array.find?_toList] at e;unfold PySem.W.lookIn;rw [hd];dsimp only;split
 ·rename_i y q;rw [q] at e;exact congrArg some e
 ·rename_i q;rw [q] at e;have a:es.toList.any (·.refKey)=false:=by
   rw [List.any_eq_false];intro y hy;obtain ⟨z,t,M9⟩:=hk y (Array.mem_toList_iff.mp hy);simp [DictEntry.refKey,M9]
  have a':¬es.toList.any (·.refKey)=true:=by rw [a]; exact Bool.false_ne_true
  rw [if_neg a'];exact congrArg some e
variable {C:Addr}
theorem ObjM.look {x dx:Addr} {mA:Str->Option Value} (I:ObjM h x dx C mA):∃od,PySem.W.InstAt h x (PySem.W.instObj C dx) C (some od)/\∀name,PySem.W.lookIn name od=some (mA name):=
 let ⟨od,ho,hl⟩:=zB I.ns
 ⟨od,⟨I.obj,rfl,rfl,ho⟩,hl⟩
section
variable {prog:Program} {w:World} {A:Around} {E:Value->Shared->Prop} {s:Shared} {K:Lb} {x dx C f:Addr} {mA:Str->Option Value} {name:Str} {v:Value}
theorem EF {expr:Bool} {Q:Value->Shared->Prop} (X:K.In s.heap) (I:ObjM s.heap x dx C mA) (hg:PySem.W.plainGet K C name=true) (hh:PySem.W.hasDictIn K C=true)
  (ha:PySem.W.findIn K (.ref C) name=some none) (hv:mA name=some v) (Oe:PySem.W.handedIn v=true) (h:Q v { s with toks:=s.toks+1 }) :
  wpAny (model prog w) A (getAttr (.ref x) name expr) Q E s:=by
 obtain ⟨od,J,hl⟩:=I.look;exact PySem.W.get_value X J (PySem.W.plainGet_of hg).1 (PySem.W.findObj_own hh ha rfl (by rw [hl,hv])) Oe h
theorem Bl {pl:Sem Bool} {Q:Value×List Value->Shared->Prop} (X:K.In s.heap) (I:ObjM s.heap x dx C mA) (hg:PySem.W.plainGet K C name=true)
  (hf:PySem.W.findIn K (.ref C) name=some (some (.ref f))) (ht:PySem.W.isFn K (.ref f)=true) (hv:mA name=none) (h:Q (.ref f,[.ref x]) s) :
  wpAny (model prog w) A (getMethod (.ref x) name pl) Q E s:=by
 obtain ⟨od,J,hl⟩:=I.look;exact PySem.W.method_fn X J (PySem.W.plainGet_of hg).1 (PySem.W.plainGet_of hg).2 hf (beq_iff_eq.mp ht) (by show (PySem.W.lookIn name od).map (·.isSome)=some false; rw [hl,hv]; rfl) h
theorem EG {ns:List Str} {Q:Unit->Shared->Prop} (X:K.In s.heap) (I:ObjM s.heap x dx C mA)
  (hs:PySem.W.findIn K (.ref C) "__setattr__" = some (some (.builtin "object.__setattr__"))) (hp:PySem.W.plainOver K C=true) (ht:PySem.W.takerIn K C name=some none) (hh:PySem.W.hasDictIn K C=true)
  (hw:PySem.Within mA ns) (Ny:ns.length<=sizeLine)
  (h:∀h',ObjM h' x dx C (fun y=>if y=name then some v else mA y)->Heap.SameBut dx s.heap h'->Q () { s with heap:=h',toks:=s.toks+2 }) :
  wpAny (model prog w) A (setAttr (.ref x) name v) Q E s:=by
 obtain ⟨od,J,hl⟩:=I.look;refine PySem.W.set_plain X J hs (PySem.W.osa_open (s:={ s with toks:=s.toks+1 }) (r:=none) X J hp ht fun b=>?_);obtain ⟨cd,hc,Ng⟩:=PySem.W.any_some hh;have hx:s.heap.get? x=some ⟨.ref C,some dx,.plain,#[]⟩:=I.obj;refine K3 (K4 (K3 (K3 (wpAny_loadPart hx (K3 (PySem.W.Looks.here (s:={ s with toks:=s.toks+1 }) (PySem.W.looks_clsIn X hc) ?_))))));rw [Ng];refine K4 (a:=some dx) (K3 (K4 (K3 ?_)));refine wpAny_nsSet1 (s:={ s with toks:=s.toks+1 }) I.ns fun h' hn2 M3=>?_;obtain ⟨oD,esD,epD,hoD,hdD,hcD⟩:=hn2.count (PySem.Within.cons name v hw);refine K3 (wpAny_lookBehind hoD (by rw [hdD]; exact pastItsLine_dict (Lp hcD (by rw [List.length_cons]; lia))) ?_);exact K4 (h _ ⟨(M3.2 _ (Ne.symm I.ne)).trans I.obj,hn2,I.ne⟩ M3)
theorem AQ {R:Result->Shared->Prop} {vs:List Value} {kw:List (Str×Value)} (X:K.In s.heap) (hm:PySem.W.makesIn K C=true)
  (hi:PySem.W.findIn K (.ref C) "__init__" = some (some (.ref f))) (hf:PySem.W.typeIn K (.ref f)=some (.type "function"))
  (h:codeAny (model prog w) (A.under (.builtin "type.__call__" ⟨.ref C::vs,kw⟩)) (.call (.ref f) ⟨.ref (s.heap.objs.size+1)::vs,kw⟩) (PySem.W.InitBack (s.heap.objs.size+1) R)
   { s with heap:=(s.heap.push PySem.W.emptyDict).push (PySem.W.instObj C s.heap.objs.size) }) :
  codeAny (model prog w) A (.call (.ref C) ⟨vs,kw⟩) R s:=by
 obtain ⟨hh,g,d,t,os⟩:=s;exact PySem.W.make_core (PySem.W.makes_of X hm) (PySem.W.looks_findIn X hi) (fun self=>PySem.W.bind_fn X self hf) (.inl rfl) h
end
noncomputable def gu (f:Str) (v:V):List (Str×V)->List (Str×V)
 |[]=>[(f,v)]
 |(g,x)::r=>if g=f then (g,v)::r else (g,x)::gu f v r
theorem nZ (f g:Str) (v:V):∀fs:List (Str×V),(gu f v fs).lookup g=if g=f then some v else fs.lookup g
 |[]=>by
  show List.lookup g [(f,v)]=_;by_cases h:g=f
  ·have hb:(g==f)=true:=beq_iff_eq.mpr h;simp only [List.lookup,hb,if_pos h]
  ·have hb:(g==f)=false:=beq_eq_false_iff_ne.mpr h;simp only [List.lookup,hb,if_neg h]
 |(k,x)::r=>by
  have ih:=nZ f g v r;rw [show gu f v ((k,x)::r)=(if k=f then (k,v)::r else (k,x)::gu f v r) from rfl];by_cases hk:k=f
  ·rw [if_pos hk];by_cases h:g=k
   ·have hb:(g==k)=true:=beq_iff_eq.mpr h;simp only [List.lookup,hb,if_pos (h.trans hk)]
   ·have hb:(g==k)=false:=beq_eq_false_iff_ne.mpr h;simp only [List.lookup,hb,if_neg (fun e:g=f=>h (e.trans hk.symm))]
  ·rw [if_neg hk];by_cases h:g=k
   ·have hb:(g==k)=true:=beq_iff_eq.mpr h;simp only [List.lookup,hb,if_neg (fun e:g=f=>hk (h.symm.trans e))]
   ·have hb:(g==k)=false:=beq_eq_false_iff_ne.mpr h;simp only [List.lookup,hb];exact ih
theorem ny (f:Str) (v:V):∀fs:List (Str×V),f∈(gu f v fs).map (·.1)/\∀g,g∈fs.map (·.1)->g∈(gu f v fs).map (·.1)
 |[]=>⟨by simp [gu],fun g h=>by simp at h⟩
 |(k,x)::r=>by
  obtain ⟨i1,i2⟩:=ny f v r;rw [show gu f v ((k,x)::r)=(if k=f then (k,v)::r else (k,x)::gu f v r) from rfl];by_cases hk:k=f
  ·rw [if_pos hk];subst hk;exact ⟨0x4,fun g h=>by simpa using h⟩
  ·rw [if_neg hk];refine ⟨?_,fun g h=>?_⟩
   ·rw [List.map_cons];exact KS _ i1
   ·rw [List.map_cons] at h ⊢;rcases Lc.mp h with e|e
    ·exact Lc.mpr (.inl e)
    ·exact KS _ (i2 g e)
theorem nO (f:Str) (v:V):∀fs:List (Str×V),(gu f v fs).length<=fs.length+1
 |[]=>by simp [gu]
 |(k,x)::r=>by
  have ih:=nO f v r;rw [show gu f v ((k,x)::r)=(if k=f then (k,v)::r else (k,x)::gu f v r) from rfl];by_cases hk:k=f
  ·rw [if_pos hk,List.length_cons,List.length_cons]; lia
  ·rw [if_neg hk,List.length_cons,List.length_cons]; lia
theorem qS.some_of {v:V} {o:Option Value} (r:qS (some v) o):∃u,o=some u/\bJ v u:=by
 cases o with
 |none=>exact (show False from r).elim
 |some u=>exact ⟨u,rfl,r⟩
theorem qS.none_of {o:Option Value} (r:qS none o):o=none:=by
 cases o with
 |none=>rfl
 |some u=>exact (show False from r).elim
theorem zV {v:V} (r:bJ v u):PySem.W.handedIn u=true:=by
 cases v with
 |non=>cases (show u=Value.none from r); rfl
 |bl b=>cases (show u=Value.bool b from r); rfl
 |int i=>obtain ⟨t,e⟩:=(show ∃t,u=Value.int i t from r); cases e; rfl
 |str x=>obtain ⟨t,e⟩:=(show ∃t,u=Value.str x t from r); cases e; rfl
 |byt b=>obtain ⟨t,e⟩:=(show ∃t,u=Value.bytes b t from r); cases e; rfl
 |flt b=>obtain ⟨t,e⟩:=(show ∃t,u=Value.float b t from r); cases e; rfl
 |ref a=>cases (show u=Value.ref a from r); rfl
 |ty n=>cases (show u=Value.type n from r); rfl
section
variable {P:Program} {w:World} {H H':Hp} {h h':Heap} {a C dx:Addr} {fs NX:List (Str×V)}
theorem oI (hok:k6 P w H h) (e:H a=some (.ins C dx fs)):∃mA,ObjM h a dx C mA/\(∀f,qS (fs.lookup f) (mA f))/\PySem.Within mA (fs.map (·.1))/\fs.length<=1000/\H dx=some (.own a):=by
 obtain ⟨d,z,ne,ob,mA,n,r,q⟩:=(show cR P w H h a (.ins C dx fs) from hok a _ e);exact ⟨mA,⟨ob,n,ne⟩,r,q,z,d⟩
end
structure Cls (K:Lb) (C:Addr):Prop where
 pg:PySem.W.plainGet K C Str.empty=true
 hd:PySem.W.hasDictIn K C=true
 po:PySem.W.plainOver K C=true
 sa:PySem.W.findIn K (.ref C) "__setattr__" = some (some (.builtin "object.__setattr__"))
theorem Cls.get (c:Cls K C) (f:Str):PySem.W.plainGet K C f=true:=c.pg
def eR (K:Lb) (C:Addr) (f:Str):Prop:=PySem.W.findIn K (.ref C) f=some none
theorem eR.taker {f:Str} (n:eR K C f):PySem.W.takerIn K C f=some none:=by
 unfold PySem.W.takerIn;rw [show PySem.W.findIn K (.ref C) f=some none from n];rfl
structure Meth (K:Lb) (C:Addr) (m:Str) (f:Addr):Prop where
 at_:PySem.W.findIn K (.ref C) m=some (some (.ref f))
 fn:PySem.W.isFn K (.ref f)=true
 kp:PySem.W.keepIn K (.ref f)=true
section
variable {X:Cx} {pins:List (Addr×Obj)} {σ:St} {H:Hp} {s:Shared} {a C dx:Addr} {fs:List (Str×V)} {f:Str} {v:V} {A:Around} {E:Value->Shared->Prop}
theorem xR {b:Bool} {Q:Value->Shared->Prop} (I:Inv X pins σ H s) (e:H a=some (.ins C dx fs)) (c:Cls X.K C) (n:eR X.K C f) (l:fs.lookup f=some v)
  (h:∀u s',Inv X pins σ H s'->bJ v u->Q u s'):wpAny (model X.prog X.w) A (getAttr (.ref a) f b) Q E s:=by
 obtain ⟨mA,O,r,_,_,_⟩:=oI I.hok e;obtain ⟨u,hu,ru⟩:=qS.some_of (v:=v) (o:=mA f) (by rw [<-l]; exact r f);exact EF I.kIn O (c.get f) c.hd n hu (zV ru) (h u _ (I.tok _) ru)
theorem pN {m:Str} {g:Addr} {pl:Sem Bool} {Q:Value×List Value->Shared->Prop} (I:Inv X pins σ H s) (e:H a=some (.ins C dx fs)) (c:Cls X.K C) (k:Meth X.K C m g) (l:fs.lookup m=none)
  (h:Q (.ref g,[.ref a]) s):wpAny (model X.prog X.w) A (getMethod (.ref a) m pl) Q E s:=by
 obtain ⟨mA,O,r,_,_,_⟩:=oI I.hok e;have hn:mA m=none:=qS.none_of (by rw [<-l]; exact r m);exact Bl I.kIn O (c.get m) k.at_ k.fn hn h
theorem xE {y:V} {Q:Unit->Shared->Prop} (I:Inv X pins σ H s) (e:H a=some (.ins C dx fs)) (c:Cls X.K C) (n:eR X.K C f) (hl:fs.length<1000) (ry:bJ y u)
  (h:∀s',Inv X pins σ (bX H a (.ins C dx (gu f y fs))) s'->Q () s'):wpAny (model X.prog X.w) A (setAttr (.ref a) f u) Q E s:=by
 obtain ⟨mA,O,r,wi,_,ho⟩:=oI I.hok e;have hz:(fs.map (·.1)).length<=sizeLine:=by rw [List.length_map,sizeLine_eq]; lia
 refine EG I.kIn O c.sa c.po n.taker c.hd wi hz fun h' O' sb=>h _ ?_;have hd:∃o,h'.get? dx=some o:=let ⟨o,_,_,e',_⟩:=O'.ns; ⟨o,e'⟩
 refine I.write (x:=a) (e:=dx) (by rw [e]; exact True.intro) (.inr ho) (fun b q hb z=>(sb.2 b hb).trans z) hd ?_;refine ⟨by rw [aG O.ne]; exact ho,?_,O.ne,O'.obj,_,O'.ns,fun g=>?_,fun g hg=>?_⟩
 ·have:=nO f y fs; lia
 ·show qS ((gu f y fs).lookup g) (if g=f then some u else mA g);rw [nZ];by_cases q:g=f
  ·rw [if_pos q,if_pos q]; exact ry
  ·rw [if_neg q,if_neg q]; exact r g
 ·by_cases q:g=f
  ·rw [q]; exact (ny f y fs).1
  ·refine (ny f y fs).2 g (wi g fun z=>hg ?_);show (if g=f then some u else mA g)=none;rw [if_neg q]; exact z
theorem Inv.made (I:Inv X pins σ H s):Inv X pins σ (bX (bX H s.heap.objs.size (.own (s.heap.objs.size+1))) (s.heap.objs.size+1) (.ins C s.heap.objs.size []))
  { s with heap:=(s.heap.push PySem.W.emptyDict).push (PySem.W.instObj C s.heap.objs.size) }:=by
 have e1:(s.heap.push PySem.W.emptyDict).get? s.heap.objs.size=some PySem.W.emptyDict:=Lv s.heap rfl;have e2:((s.heap.push PySem.W.emptyDict).push (PySem.W.instObj C s.heap.objs.size)).get? (s.heap.objs.size+1)=some (PySem.W.instObj C s.heap.objs.size):=by
  have:=Lv (s.heap.push PySem.W.emptyDict) (o:=PySem.W.instObj C s.heap.objs.size) rfl
  rwa [Heap.size_push] at this
 have e3:(s.heap.push PySem.W.emptyDict).Ns s.heap.objs.size (fun _=>none):=⟨PySem.W.emptyDict,#[],_,e1,rfl,(fun e he=>absurd he 0x4),fun _=>rfl⟩;have I1:=I.laid (a:=s.heap.objs.size) (o:=.own (s.heap.objs.size+1)) (h':=s.heap.push PySem.W.emptyDict) (t':=s.toks) (fun b u q=>KW _ q) (K2 _) ⟨_,e1⟩;refine I1.laid (a:=s.heap.objs.size+1) (o:=.ins C s.heap.objs.size []) (t':=s.toks) (fun b u q=>KW _ q) (Lx (Heap.size_push _ _)) ?_;have ne:s.heap.objs.size≠s.heap.objs.size+1:=Lu (Nat.lt_succ_self _);refine ⟨by rw [aG ne,aW],Lo _,ne,e2,fun _=>none,(Heap.Ns1.of_empty e3).at fun o q=>KW _ q,fun _=>True.intro,fun y hy=>absurd rfl hy⟩
theorem E2 {prog:Program} {env:Env} {f:Str} {pos:Pos} {s:Shared} {Q:Value->Shared->Prop} (hb:attributeBase e f env (eval e env)=eval e env)
  (h:wpAny (model prog w) A (eval e env) (fun o s₁=>wpAny (model prog w) A (getAttr o f true) Q E s₁) E s):wpAny (model prog w) A (eval (.Attribute e f pos) env) Q E s:=
 Attribute_any_ h (by rw [arm_eval_Attribute,hb])
end
def J0 (K:Lb) (ta:TE) (f:Str):TE:=fun σ H Q=>ta σ H fun x H1=>∃a C dx fs v,x=.ref a/\H1 a=some (.ins C dx fs)/\Cls K C/\eR K C f/\fs.lookup f=some v/\Q v H1
def HA (K:Lb) (ta tv:TE) (f:Str):TS:=fun D σ H=>tv σ H fun y H1=>ta σ H1 fun x H2=>∃a C dx fs,x=.ref a/\H2 a=some (.ins C dx fs)/\Cls K C/\eR K C f/\fs.length<1000 /\
 D.nx σ (bX H2 a (.ins C dx (gu f y fs)))
section
variable {X:Cx} {o e value:Expr} {f:Str} {pos pos' tpos:Pos} {ta tv:TE}
theorem AD (he:PE X e ta) (hb:attributeBase e f X.env (eval e X.env)=eval e X.env):PE X (.Attribute e f pos) (J0 X.K ta f):=by
 intro pins s σ H Q I h;refine E2 hb (cG (he pins s σ H _ I h) fun u s1 ⟨x,H1,I1,rx,a,C,dx,fs,v,ex,ea,c,n,l,q⟩=>?_);subst ex;obtain rfl:u=Value.ref a:=rx;exact xR I1 ea c n l fun u' s2 I2 ru=>⟨v,H1,I2,ru,q⟩
theorem tH (ha:PE X o ta) (hv:PE X value tv) (hs:swapsWith value (some (.Attribute o f pos')) pos.line X.env=pure false):PS X (.Assign [.Attribute o f pos'] value pos) (HA X.K ta tv f):=by
 intro pins s σ H D I h;refine plainObj_wpAny_Assign_Attribute (cG (hv pins s σ H _ I h) fun u s1 ⟨y,H1,I1,ry,q⟩=>cG (ha pins s1 σ H1 _ I1 q) fun ov s2 ⟨x,H2,I2,rx,a,C,dx,fs,ex,ea,c,n,l,q2⟩=>?_) hs;subst ex;obtain rfl:ov=Value.ref a:=rx;exact xE I2 ea c n l ry fun s3 I3=>⟨σ,_,I3,q2⟩
theorem FN {pl:Sem Bool} {m:Str} {apos:Pos} {args:List Expr} {Q:Value->Shared->Prop} {te:TE} (he:PE X e te) (I:Inv X pins σ H s)
  (h:te σ H fun x H1=>∃a C dx fs g,x=.ref a/\H1 a=some (.ins C dx fs)/\Cls X.K C/\Meth X.K C m g/\fs.lookup m=none /\
   ∀s1,Inv X pins σ H1 s1->wpAny (model X.prog X.w) X.A (callWith pos (.ref g) [.ref a] (backTo pos (starEach args X.env)) (backToKw pos (keywordEach [] X.env))) Q X.xe s1)
  (ht:eval (.Call (.Attribute e m apos) args [] pos) X.env=(do
   let ov <-eval e X.env
   standAt apos.atName
   let (f,first) <-holding [ov] (getMethod ov m pl)
   callWith pos f first (backTo pos (starEach args X.env)) (backToKw pos (keywordEach [] X.env)))) :
  wpAny (model X.prog X.w) X.A (eval (.Call (.Attribute e m apos) args [] pos) X.env) Q X.xe s:=by
 refine PySem.W.methodCall_KW (pl:=pl) (cG (he pins s σ H _ I h) fun u s1 ⟨x,H1,I1,rx,a,C,dx,fs,g,ex,ea,c,k,l,q⟩=>?_) ht;subst ex;obtain rfl:u=Value.ref a:=rx;exact pN I1 ea c k l (q s1 I1)
end
section
variable {X:Cx} {pins:List (Addr×Obj)} {σ:St} {H:Hp} {s:Shared} {A:Around} {E:Value->Shared->Prop} {Q:Value->Shared->Prop} {c:Value} {b:Bool}
inductive TyOf (K:Lb) (H:Hp):V->Value->Prop where
 |non:TyOf K H .non (.type "NoneType")
 |bl (x:Bool):TyOf K H (.bl x) (.type "bool")
 |int (i:Int):TyOf K H (.int i) (.type "int")
 |str (x:Str):TyOf K H (.str x) (.type "str")
 |flt (x:UInt64):TyOf K H (.flt x) (.type "float")
 |lst {a:Addr} {xs:List V} (e:H a=some (.lst xs)):TyOf K H (.ref a) (.type "list")
 |frz {a:Addr} {o:Obj} {xs:List V} (e:H a=some (.frz o (.lst xs))):TyOf K H (.ref a) (.type "list")
 |tup {a:Addr} {xs:List V} (e:H a=some (.tup xs)):TyOf K H (.ref a) (.type "tuple")
 |dK {a:Addr} {kvs:List (uN×V)} (e:H a=some (.dK kvs)):TyOf K H (.ref a) (.type "dict")
 |dT {a:Addr} {kvs:List (List uN×V)} (e:H a=some (.dT kvs)):TyOf K H (.ref a) (.type "dict")
 |ins {a C dx:Addr} {fs:List (Str×V)} (e:H a=some (.ins C dx fs)) (cl:Cls K C) (ha:PySem.W.findIn K (.ref C) "__class__" = some (some (.builtin "object.__class__")))
   (hn:PySem.W.specialIn K (.builtin "object.__class__") "__get__" = some (some (.builtin "getset_descriptor.__get__"))) (htk:PySem.W.takesIn K (.builtin "object.__class__")=some true)
   (hm:PySem.W.mroIn K C (.type "object")=some true):TyOf K H (.ref a) (.ref C)
theorem zD {x:V} {t:Value} (I:Inv X pins σ H s) (rx:bJ x u) (ty:TyOf X.K H x t) (e:PySem.W.kitOne X.K t c=some b) (h:∀tk,Q (.bool b) { s with toks:=tk }) :
  wpAny (model X.prog X.w) A (call (.builtin "isinstance") [u,c]) Q E s:=by
 cases ty with
 |non=>cases (show u=Value.none from rx); exact PySem.W.kia_one PySem.W.kitx_none I.kIn True.intro e (fun z=>nomatch z) h
 |bl y=>cases (show u=Value.bool y from rx); exact PySem.W.kia_one PySem.W.kitx_bool I.kIn True.intro e (fun z=>nomatch z) h
 |int i=>obtain ⟨t,q⟩:=(show ∃t,u=Value.int i t from rx); cases q; exact PySem.W.kia_one PySem.W.kitx_int I.kIn True.intro e (fun z=>nomatch z) h
 |str y=>obtain ⟨t,q⟩:=(show ∃t,u=Value.str y t from rx); cases q; exact PySem.W.kia_one PySem.W.kitx_str I.kIn True.intro e (fun z=>nomatch z) h
 |flt y=>obtain ⟨t,q⟩:=(show ∃t,u=Value.float y t from rx); cases q; exact PySem.W.kia_one PySem.W.kitx_float I.kIn True.intro e (fun z=>nomatch z) h
 |@lst a xs ea=>
  cases (show u=Value.ref a from rx);obtain ⟨_,_,n,_,h1⟩:=(show cR X.prog X.w H s.heap a (.lst xs) from I.hok a _ ea);exact PySem.W.kia_one PySem.W.kitx_list I.kIn ⟨_,h1,rfl⟩ e (fun z=>nomatch z) h
 |@frz a ob xs ea=>
  cases (show u=Value.ref a from rx);obtain ⟨_,_,_,n,_,h1⟩:=(show cR X.prog X.w H s.heap a (.frz ob (.lst xs)) from I.hok a _ ea);exact PySem.W.kia_one PySem.W.kitx_list I.kIn ⟨_,h1,rfl⟩ e (fun z=>nomatch z) h
 |@tup a xs ea=>
  cases (show u=Value.ref a from rx);obtain ⟨_,_,_,p⟩:=(show cR X.prog X.w H s.heap a (.tup xs) from I.hok a _ ea);obtain ⟨o,h1,h2,_⟩:=p;exact PySem.W.kia_one PySem.W.kitx_tuple I.kIn ⟨o,h1,h2⟩ e (fun z=>nomatch z) h
 |@dK a kvs ea=>
  cases (show u=Value.ref a from rx);obtain ⟨_,_,vs,_,p⟩:=(show cR X.prog X.w H s.heap a (.dK kvs) from I.hok a _ ea);obtain ⟨o,es,ep,h1,h2,_⟩:=p;exact PySem.W.kia_one PySem.W.kitx_dict I.kIn ⟨o,h1,h2.1⟩ e (fun z=>nomatch z) h
 |@dT a kvs ea=>
  cases (show u=Value.ref a from rx);obtain ⟨_,_,xs,_,o,es,ep,h1,h2,_⟩:=(show cR X.prog X.w H s.heap a (.dT kvs) from I.hok a _ ea);exact PySem.W.kia_one PySem.W.kitx_dict I.kIn ⟨o,h1,h2.1⟩ e (fun z=>nomatch z) h
 |@ins a C dx fs ea cl ha hn htk hm=>
  cases (show u=Value.ref a from rx);obtain ⟨mA,O,_⟩:=oI I.hok ea;obtain ⟨od,J,_⟩:=O.look;exact PySem.W.kia_one (PySem.W.kitx_own (cl.get _) cl.hd ha hn htk hm) I.kIn J e (fun z=>nomatch z) h
end
structure Room (k:Nat) (A:Around):Prop where
 hd:A.handled=none
 dp:A.depth+3*k+5<recursionLimit
 un:A.units+16*k+200<cLine
variable {k:Nat}
theorem Room.mono {j:Nat} (r:Room k A) (h:j<=k):Room j A:=⟨r.hd,by have:=r.dp; lia,by have:=r.un; lia⟩
theorem Room.deeper {k:Nat} {A:Around} (r:Room (k+1) A) (env:Env):Room k (A.deeper env):=
 ⟨r.hd,by have:=r.dp; show A.depth+1+3*k+5<_; lia,by have:=r.un; show A.units+3+16*k+200<_; lia⟩
theorem Room.in1 {k:Nat} {A:Around} (r:Room (k+1) A):Room k A.in1:=
 ⟨r.hd,by have:=r.dp; show A.depth+3*k+5<_; lia,by have:=r.un; show A.units+1+16*k+200<_; lia⟩
variable {us:List Value}
theorem w4 {kw:List (Str×Value)}:(A.under (.builtin "type.__call__" ⟨.ref C::us,kw⟩)).depth=A.depth+1:=by
 first|rfl|simp [Around.under,Code.weight,Code.isCreation,Code.isGuard,Code.isCaller,Code.frames,Code.isFrame,guardIds]
theorem xx {kw:List (Str×Value)}:(A.under (.builtin "type.__call__" ⟨.ref C::us,kw⟩)).units=A.units+1:=by
 first|rfl|simp [Around.under,Code.cUnits,Code.frames,Code.isFrame]
theorem Room.make (r:Room (k+1) A) (C:Addr) (us:List Value) (kw:List (Str×Value)):Room k (A.under (.builtin "type.__call__" ⟨.ref C::us,kw⟩)):=
 ⟨r.hd,by have:=r.dp; rw [w4]; lia,by have:=r.un; rw [xx]; lia⟩
theorem Room.depth {k:Nat} {A:Around} (r:Room k A):A.depth<recursionLimit:=by have:=r.dp; lia
theorem Room.units {k:Nat} {A:Around} (r:Room k A):A.units+64<cLine:=by have:=r.un; lia
def GI:TA:=fun _ H Q=>Q [] H
def FD (ta:TE) (tr:TA):TA:=fun σ H Q=>ta σ H fun x H1=>tr σ H1 fun xs H2=>Q (x::xs) H2
section
variable {X:Cx} {e:Expr} {es:List Expr} {te:TE} {t:TA} {pos:Pos}
theorem lP:PA X [] GI:=fun _ _ _ _ H Q I h=>Calls.spliced_nil ⟨[],H,I,.nil,h⟩
theorem kG (ha:PE X e te) (hr:PA X es t) (hs:starEach (e::es) X.env=(false,eval e X.env)::starEach es X.env:=by rfl):PA X (e::es) (FD te t):=by
 intro pos pins s σ H Q I h;rw [hs];show wpAny _ _ (spliced ((false,eval e X.env)::backTo pos (starEach es X.env))) _ _ s;refine Calls.spliced_cons (cG (ha pins s σ H _ I h) fun u s1 ⟨x,H1,I1,r1,q1⟩=>?_);exact cG (hr pos pins s1 σ H1 _ I1 q1) fun us s2 ⟨xs,H2,I2,r2,q2⟩=>⟨x::xs,H2,I2,.cons r1 r2,q2⟩
def JN (t:TA):TE:=fun σ H Q=>t σ H fun xs H1=>xs.length<=sizeLine/\∀p,H1 p=none->Q (.ref p) (bX H1 p (.tup xs))
def H9 (t:TA):TE:=fun σ H Q=>t σ H fun xs H1=>xs.length<=sizeLine/\∀p,H1 p=none->Q (.ref p) (bX H1 p (.lst xs))
theorem Cy {x1} (h:PA X es t):PE X (.Tuple es x1 pos) (JN t):=by
 intro pins s σ H Q I hq;refine wpAny_Tuple_spliced (cG (h pos pins s σ H _ I hq) fun us s1 ⟨xs,H1,I1,r,z,q⟩=>⟨by rw [<-r.length]; exact z,?_⟩);have hf:H1 s1.heap.objs.size=none:=I1.hok.fresh (K2 _);refine ⟨.ref s1.heap.objs.size,bX H1 s1.heap.objs.size (.tup xs),I1.laid (t':=s1.toks) (fun b u e=>KW _ e) (K2 _) ?_,rfl,q _ hf⟩;exact ⟨z,us,r,⟨_,Lv _ rfl,rfl,_,rfl⟩⟩
theorem AY (h:PA X es t):PE X (.List es pos) (H9 t):=by
 intro pins s σ H Q I hq;refine wpAny_List_spliced (cG (h pos pins s σ H _ I hq) fun us s1 ⟨xs,H1,I1,r,z,q⟩=>⟨by rw [<-r.length]; exact z,?_⟩);have hf:H1 s1.heap.objs.size=none:=I1.hok.fresh (K2 _);refine ⟨.ref s1.heap.objs.size,bX H1 s1.heap.objs.size (.lst xs),I1.laid (t':=s1.toks) (fun b u e=>KW _ e) (K2 _) ?_,rfl,q _ hf⟩;exact ⟨z,us,0,r,Lv _ rfl⟩
end
abbrev Sp:=List V->Hp->VK->XK->Prop
abbrev Ai:=List Env->Hp->Shared->XK->Value->Shared->Prop
structure Env0 (P:Program) (w:World) (K:Lb) (mg:Str->Option Value) (base:Heap) (A:Around) (outer:List Env) (s:Shared) (H:Hp):Prop where
 frames:A.frames=some outer
 mod:Mod K mg base
 bs:∀b o,base.get? b=some o->s.heap.get? b=some o/\H b=none
 bsz:base.objs.size<=s.heap.objs.size
 funs:s.heap.FunFrames base outer
 frf:∀b∈iP outer,H b=none
 hok:k6 P w H s.heap
 bare:AllBare s.gens
def CE (outer:List Env) (P:Program) (w:World) (H:Hp) (s:Shared) (Q:VK) (u:Value) (s':Shared):Prop:=
 ∃v H',s'.os=s.os/\AllBare s'.gens/\Un (iP outer) [] H H' s.heap s'.heap/\k6 P w H' s'.heap/\bJ v u/\Q v H'
def CR (CX:Ai) (outer:List Env) (P:Program) (w:World) (H:Hp) (s:Shared) (Q:VK) (E:XK) (r:Result) (s':Shared):Prop:=
 match r with
 |.ok (.ret u)=>CE outer P w H s Q u s'
 |.ok _=>False
 |.error e=>CX outer H s E e s'
structure FnOk (P:Program) (w:World) (K:Lb) (mg:Str->Option Value) (base:Heap) (CX:Ai) (k:Nat) (f:Addr) (fd:FuncData) (ps:List Str) (sp:Sp):Prop where
 len:∀vs H Q E,sp vs H Q E->vs.length=ps.length
 run:∀(A:Around) (outer:List Env) (s:Shared) (H:Hp) (args:Args) (us:List Value) (vs:List V) (Q:VK) (E:XK),Room k A->Env0 P w K mg base A outer s H->BindsTo s fd args (ps.zip us)->aX vs us->sp vs H Q E ->
  codeAny (model P w) A (.call (.ref f) args) (CR CX outer P w H s Q E) s
theorem FnOk.mono {P:Program} {w:World} {K:Lb} {mg:Str->Option Value} {base:Heap} {CX:Ai} {j k:Nat} {f:Addr} {fd:FuncData} {ps:List Str} {sp:Sp} (F:FnOk P w K mg base CX j f fd ps sp) (h:j<=k) :
  FnOk P w K mg base CX k f fd ps sp:=⟨F.len,fun A outer s H args us vs Q E hr=>F.run A outer s H args us vs Q E (hr.mono h)⟩
variable {mg:Str->Option Value} {base:Heap} {CX:Ai} {ps:List Str}
theorem FnOk.imp {f:Addr} {fd:FuncData} {sp sp':Sp} (F:FnOk P w K mg base CX k f fd ps sp)
  (h:∀vs H Q E,sp' vs H Q E->sp vs H Q E):FnOk P w K mg base CX k f fd ps sp':=
 ⟨fun vs H Q E q=>F.len vs H Q E (h _ _ _ _ q),fun A outer s H args us vs Q E hr he hb hv hs=>F.run A outer s H args us vs Q E hr he hb hv (h _ _ _ _ hs)⟩
theorem Env0.make {outer:List Env} (e:Env0 P w K mg base A outer s H) (C:Addr) (us:List Value) (kw:List (Str×Value)) :
  Env0 P w K mg base (A.under (.builtin "type.__call__" ⟨.ref C::us,kw⟩)) outer s H:=⟨by first|exact e.frames|(simpa [Around.under,Code.envs,Code.isFrame,pushEnvs] using e.frames),e.mod,e.bs,e.bsz,e.funs,e.frf,e.hok,e.bare⟩
theorem Env0.in1 {P:Program} {w:World} {K:Lb} {mg:Str->Option Value} {base:Heap} {A:Around} {outer:List Env} {s:Shared} {H:Hp} (e:Env0 P w K mg base A outer s H) :
  Env0 P w K mg base A.in1 outer s H:=⟨e.frames,e.mod,e.bs,e.bsz,e.funs,e.frf,e.hok,e.bare⟩
section
variable {X:Cx} {pins:List (Addr×Obj)} {σ:St} {H:Hp} {s s':Shared}
theorem Inv.env0 (I:Inv X pins σ H s):Env0 X.prog X.w X.K X.mg X.base X.A X.stack s H:=
 ⟨I.ok.frames,I.ok.mod,I.bs,Lp I.ok.bsz I.sz,I.stack,I.stkFree,I.hok,I.bare⟩
theorem Inv.after {Q:VK} (I:Inv X pins σ H s) (h:CE X.stack X.prog X.w H s Q u s'):EP X pins σ Q u s':=by
 obtain ⟨v,H',os,bare,un,hok,r,q⟩:=h;obtain ⟨hh,g,d,t,os'⟩:=s';obtain rfl:os'=s.os:=os;exact ⟨v,H',I.call (h':=hh) (g':=g) (d':=d) (t':=t) (ch:=[]) un hok bare (fun b z=>absurd z 0x4),r,q⟩
end
def Jb (sp:Sp) (MN:List V) (E:XK) (t:TA):TE:=fun σ H Q=>t σ H fun vs H1=>sp (vs++MN) H1 Q E
def Iz (C:Addr) (m:Str) (sp:Sp) (MN:List V) (E:XK) (ta:TE) (t:TA):TE:=fun σ H Q=>ta σ H fun x H1=>∃a dx fs,x=.ref a/\H1 a=some (.ins C dx fs)/\fs.lookup m=none /\
 t σ H1 fun vs H2=>sp (x::(vs++MN)) H2 Q E
def Jn (C:Addr) (sp:Sp) (MN:List V) (E:XK) (t:TA):TE:=fun σ H Q=>t σ H fun vs H1=>∀x dx,H1 x=none->H1 dx=none->dx≠x ->
 sp (.ref x::(vs++MN)) (bX (bX H1 dx (.own x)) x (.ins C dx [])) (fun v H2=>v=.non/\Q (.ref x) H2) E
def gi (K:Lb) (fd:FuncData) (ps:List Str) (ds:List Value):Prop:=
 ∀(s:Shared) (us:List Value),K.In s.heap->(us++ds).length=ps.length->BindsTo s fd ⟨us,[]⟩ (ps.zip (us++ds))
theorem gi.all {fd:FuncData} (h:∀us:List Value,us.length=ps.length->bindArgs fd ⟨us,[]⟩=pure (ps.zip us)):gi K fd ps []:=fun s us _ hl=>by
 rw [List.append_nil] at hl ⊢;exact .of_eq (h us hl)
def jv (CX:Ai) (X:Cx) (E:XK):Prop:=∀(pins:List (Addr×Obj)) (σ:St) (H:Hp) (s:Shared) (e:Value) (s':Shared),Inv X pins σ H s->CX X.stack H s E e s'->X.xe e s'
section
variable {X:Cx} {CX:Ai} {k:Nat} {f C:Addr} {fd:FuncData} {ps:List Str} {sp:Sp} {MN:List V} {ds:List Value} {E:XK} {x m:Str} {p pos apos:Pos} {e o:Expr} {es:List Expr} {ta:TE} {t:TA}
theorem CL {Q:VK} {vs:List V} (F:FnOk X.prog X.w X.K X.mg X.base CX k f fd ps sp) (hr:Room k X.A) (hb:gi X.K fd ps ds) (hd:aX MN ds) (hx:jv CX X E)
  (I:Inv X pins σ H s) (r:aX vs us) (h:sp (vs++MN) H Q E):wpAny (model X.prog X.w) X.A (call (.ref f) us) (EP X pins σ Q) X.xe s:=by
 have r2:aX (vs++MN) (us++ds):=r.append hd;have hl:(us++ds).length=ps.length:=by rw [<-r2.length]; exact F.len _ _ _ _ h
 refine wpAny_call (codeAny_mono (F.run X.A X.stack s H ⟨us,[]⟩ (us++ds) (vs++MN) Q E hr I.env0 (hb s us I.kIn hl) r2 h) fun r s' hq=>?_);cases r with
 |error e=>exact hx pins σ H s e s' I hq
 |ok fl=>
  cases fl with
  |ret u=>exact I.after hq
  |next=>exact False.elim hq
  |brk=>exact False.elim hq
  |cont=>exact False.elim hq
theorem zi (F:FnOk X.prog X.w X.K X.mg X.base CX k f fd ps sp) (hr:Room k X.A) (hg:Gl X x) (hm:X.mg x=some (.ref f)) (hk:PySem.W.keepIn X.K (.ref f)=true) (hb:gi X.K fd ps ds) (hd:aX MN ds) (hx:jv CX X E)
  (ha:PA X (e::es) t) (Mi:(x==("__debug__" : Str))=false:=by decide) (he:starEach (e::es) X.env=(false,eval e X.env)::starEach es X.env:=by rfl) (L9:(backTo pos (starEach es X.env)).any (·.1)=false:=by rfl) :
  PE X (.Call (.Name x p) (e::es) [] pos) (Jb sp MN E t):=by
 intro pins s σ H Q I h;refine wpAny_Call_Name_kw (oz I hg hm ?_ Mi);refine PySem.W.callWith_K (h₀:=X.base) I.ok.mod.kin hk (cG (ha pos pins s σ H _ I h) fun us s1 ⟨vs,H1,I1,r,q⟩=>⟨I1.kIn,?_⟩) he L9;exact CL F hr hb hd hx I1 r q
theorem EE {pl:Sem Bool} (he:PE X o ta) (c:Cls X.K C) (hm:Meth X.K C m f) (F:FnOk X.prog X.w X.K X.mg X.base CX k f fd ps sp) (hr:Room k X.A) (hb:gi X.K fd ps ds) (hd:aX MN ds) (hx:jv CX X E) (ha:PA X (e::es) t)
  (M8:starEach (e::es) X.env=(false,eval e X.env)::starEach es X.env:=by rfl) (L9:(backTo pos (starEach es X.env)).any (·.1)=false:=by rfl)
  (ht:eval (.Call (.Attribute o m apos) (e::es) [] pos) X.env=(do
   let ov <-eval o X.env
   standAt apos.atName
   let (f,first) <-holding [ov] (getMethod ov m pl)
   callWith pos f first (backTo pos (starEach (e::es) X.env)) (backToKw pos (keywordEach [] X.env))):=by rfl) :
  PE X (.Call (.Attribute o m apos) (e::es) [] pos) (Iz C m sp MN E ta t):=by
 intro pins s σ H Q I h;refine PySem.W.methodCall_KW (pl:=pl) (cG (he pins s σ H _ I h) fun u s1 ⟨x,H1,I1,rx,a,dx,fs,ex,ea,l,q⟩=>?_) ht;subst ex;obtain rfl:u=Value.ref a:=rx;refine pN I1 ea c hm l ?_;refine PySem.W.callWith_K (first:=[.ref a]) (h₀:=X.base) I.ok.mod.kin hm.kp (cG (ha pos pins s1 σ H1 _ I1 q) fun us s2 ⟨vs,H2,I2,r,q2⟩=>⟨I2.kIn,?_⟩) M8 L9;exact CL (us:=.ref a::us) (vs:=.ref a::vs) F hr hb hd hx I2 (.cons rfl r) q2
structure Mk (K:Lb) (C f:Addr):Prop where
 makes:PySem.W.makesIn K C=true
 init:PySem.W.findIn K (.ref C) "__init__" = some (some (.ref f))
 fn:PySem.W.isFn K (.ref f)=true
 kp:PySem.W.keepIn K (.ref C)=true
theorem AS {Q:VK} {vs:List V} (M:Mk X.K C f) (F:FnOk X.prog X.w X.K X.mg X.base CX k f fd ps sp) (hr:Room (k+1) X.A) (hb:gi X.K fd ps ds) (hd:aX MN ds)
  (hx:jv CX X E) (I:Inv X pins σ H s) (r:aX vs us)
  (h:∀x dx,H x=none->H dx=none->dx≠x->sp (.ref x::(vs++MN)) (bX (bX H dx (.own x)) x (.ins C dx [])) (fun v H2=>v=.non/\Q (.ref x) H2) E) :
  wpAny (model X.prog X.w) X.A (call (.ref C) us) (EP X pins σ Q) X.xe s:=by
 have hq:=h (s.heap.objs.size+1) s.heap.objs.size (I.hok.fresh (Nat.le_succ _)) (I.hok.fresh (K2 _)) (Lu (Nat.lt_succ_self _));have I2:=Inv.made (C:=C) I;have r2:aX (V.ref (s.heap.objs.size+1)::(vs++MN)) (Value.ref (s.heap.objs.size+1)::(us++ds)):=.cons rfl (r.append hd);have hl:(Value.ref (s.heap.objs.size+1)::us++ds).length=ps.length:=by
  have e:=r2.length;rw [F.len _ _ _ _ hq] at e;exact e.symm
 refine wpAny_call (AQ (f:=f) I.kIn M.makes M.init (beq_iff_eq.mp M.fn) (codeAny_mono (F.run _ X.stack _ _ ⟨Value.ref (s.heap.objs.size+1)::us,[]⟩ (Value.ref (s.heap.objs.size+1)::(us++ds)) _ _ E (hr.make C us [])
  (I2.env0.make C us []) (hb _ (Value.ref (s.heap.objs.size+1)::us) I2.kIn hl) r2 hq) fun r s' OZ=>?_))
 cases r with
 |error e=>exact hx pins σ _ _ e s' I2 OZ
 |ok fl=>
  cases fl with
  |ret u=>
   obtain ⟨v,H',I3,rv,ev,q3⟩:=I2.after OZ;subst ev;exact ⟨rv,⟨V.ref (s.heap.objs.size+1),H',I3,rfl,q3⟩⟩
  |next=>exact False.elim OZ
  |brk=>exact False.elim OZ
  |cont=>exact False.elim OZ
theorem yy (M:Mk X.K C f) (F:FnOk X.prog X.w X.K X.mg X.base CX k f fd ps sp) (hr:Room (k+1) X.A) (hg:Gl X x) (hm:X.mg x=some (.ref C)) (hb:gi X.K fd ps ds) (hd:aX MN ds) (hx:jv CX X E)
  (ha:PA X (e::es) t) (Mi:(x==("__debug__" : Str))=false:=by decide) (he:starEach (e::es) X.env=(false,eval e X.env)::starEach es X.env:=by rfl) (L9:(backTo pos (starEach es X.env)).any (·.1)=false:=by rfl) :
  PE X (.Call (.Name x p) (e::es) [] pos) (Jn C sp MN E t):=by
 intro pins s σ H Q I h;refine wpAny_Call_Name_kw (oz I hg hm ?_ Mi);refine PySem.W.callWith_K (h₀:=X.base) I.ok.mod.kin M.kp (cG (ha pos pins s σ H _ I h) fun us s1 ⟨vs,H1,I1,r,q⟩=>⟨I1.kIn,?_⟩) he L9;exact AS M F hr hb hd hx I1 r q
end
section
variable {X:Cx} {CX:Ai} {k:Nat} {f C:Addr} {fd:FuncData} {ps ks:List Str} {sp:Sp} {E:XK} {x m:Str} {p pos apos kpos:Pos} {e o:Expr} {es:List Expr} {kws:List Keyword} {te ta:TE} {t tk:TA} {nm:Option Str}
variable {g:List Value->List Value->List Value} {gV:List V->List V->List V}
end
structure FnScope (N P:List Str) (sc:Scope):Prop where
 kind:sc.kind=.function
 co:sc.isCoroutine=false
 gen:sc.isGenerator=false
 nd:N.Nodup
 pre:N.take P.length=P
 par:∀x∈P,sc.names.lookup x=some .local\/sc.names.lookup x=some .cell
 nofree:∀y∈sc.names,y.2≠.free
theorem q0 {kindOf:Str->Option NameKind} {x:Str}:∀{binds:List (Str×Value)} {m:Str->Option Value},(∀v,(x,v)∉binds)->bindL kindOf binds m x=m x
 |[],_,_=>rfl
 |(n,v)::r,m,h=>by
  unfold bindL;rw [q0 fun w hw=>h w (KS _ hw)];split
  ·have:x≠n:=by rintro rfl; exact h v KU
   simp [this]
  ·rfl
theorem r0 {kindOf:Str->Option NameKind} {x:Str}:∀{binds:List (Str×Value)} {m:Str->Option Value},(∀v,(x,v)∉binds)->bindC kindOf binds m x=m x
 |[],_,_=>rfl
 |(n,v)::r,m,h=>by
  unfold bindC;rw [r0 fun w hw=>h w (KS _ hw)];split
  ·rfl
  ·have:x≠n:=by rintro rfl; exact h v KU
   simp [this]
theorem rR {kindOf:Str->Option NameKind} {x:Str} {v:Value}:∀{P:List Str} {vs:List Value} {i:Nat} {m:Str->Option Value},P.Nodup->P[i]?=some x->vs[i]?=some v->kindOf x=some .local ->
  bindL kindOf (P.zip vs) m x=some v
 |[],_,_,_,_,h,_,_=>by simp at h
 |_::_,[],_,_,_,_,h,_=>by simp at h
 |p::P,w::vs,0,m,nd,h1,h2,hk=>by
  simp at h1 h2; subst h1; subst h2
  show bindL kindOf ((p,w)::P.zip vs) m p=_;unfold bindL;rw [q0 fun v hv=>(List.nodup_cons.mp nd).1 (List.of_mem_zip hv).1,if_pos hk];simp
 |p::P,w::vs,i+1,m,nd,h1,h2,hk=>by
  show bindL kindOf ((p,w)::P.zip vs) m x=_;unfold bindL;exact rR (i:=i) (List.nodup_cons.mp nd).2 (by simpa using h1) (by simpa using h2) hk
theorem rg {kindOf:Str->Option NameKind} {x:Str} {v:Value}:∀{P:List Str} {vs:List Value} {i:Nat} {m:Str->Option Value},P.Nodup->P[i]?=some x->vs[i]?=some v->kindOf x≠some .local ->
  bindC kindOf (P.zip vs) m x=some v
 |[],_,_,_,_,h,_,_=>by simp at h
 |_::_,[],_,_,_,_,h,_=>by simp at h
 |p::P,w::vs,0,m,nd,h1,h2,hk=>by
  simp at h1 h2; subst h1; subst h2
  show bindC kindOf ((p,w)::P.zip vs) m p=_;unfold bindC;rw [r0 fun v hv=>(List.nodup_cons.mp nd).1 (List.of_mem_zip hv).1,if_neg hk];simp
 |p::P,w::vs,i+1,m,nd,h1,h2,hk=>by
  show bindC kindOf ((p,w)::P.zip vs) m x=_;unfold bindC;exact rg (i:=i) (List.nodup_cons.mp nd).2 (by simpa using h1) (by simpa using h2) hk
noncomputable def start (N:List Str) (vs:List V):St:=vs.map some++List.replicate (N.length-vs.length) none
noncomputable def fj (CX:Ai) (P:Program) (w:World) (K:Lb) (mg:Str->Option Value) (base:Heap) (N:List Str) (qual:Str) (scope:Scope) (f:Addr) (cd:Value) (A:Around) (outer:List Env) (s:Shared) (H:Hp) (E:XK):Cx where
 prog:=P
 w:=w
 K:=K
 mg:=mg
 base:=base
 A:=A.deeper (envOfC qual scope s.heap.objs.size f cd)
 N:=N
 s₀:=s
 H₀:=H
 env:=envOfC qual scope s.heap.objs.size f cd
 outer:=outer
 stack:=envOfC qual scope s.heap.objs.size f cd::outer
 ex:=[]
 calm:=true
 fn:=fun _=>true
 pn:=[]
 xe:=fun e s'=>wpAny (model P w) (A.deeper (envOfC qual scope s.heap.objs.size f cd)) (leaving (envOfC qual scope s.heap.objs.size f cd) e) (fun _ s''=>CX outer H s E e s'') (fun e' s''=>CX outer H s E e' s'') s'
theorem vG {sc:Scope} {n:Nat} {x:Str} (h:sc.names.lookup x=some .cell):∃c,(cellsFrom n sc.names []).lookup x=some c:=by
 have q:=PySem.W.cellsFrom_some sc.names n [] (.inl h);exact Lk.mp q
theorem zU {N:List Str} {qual:Str} {scope:Scope} {f:Addr} {cd:Value} {outer:List Env} {s1:Shared} {E:XK} {vs:List V}
  (S:FnScope N ps scope) (hd:A.handled=none) (e0:Env0 P w K mg base A outer s H) (hl:vs.length=ps.length) (r:aX vs us)
  (x:InCallC s s.heap.objs.size (bindL (envOfC qual scope s.heap.objs.size f cd).kindOf (ps.zip us) fun _=>none) (cellsFrom (s.heap.objs.size+1) scope.names []) (bindC (envOfC qual scope s.heap.objs.size f cd).kindOf (ps.zip us) fun _=>none) s1) :
  Inv (fj CX P w K mg base N qual scope f cd A outer s H E) [] (start N vs) H s1:=by
 have L9:ps.length<=N.length:=by have:=congrArg List.length S.pre; rw [List.length_take] at this; lia
 obtain ⟨h1,tk,rfl,hk⟩:=x.done;have noA:∀b:Addr,b∉(fj CX P w K mg base N qual scope f cd A outer s H E).ex:=fun b z=>absurd (show b∈([]:List Addr) from z) 0x4;refine ⟨⟨e0.mod,S.kind,rfl,rfl,K2 _,fun y z c h1 h2=>?_,fun y hy=>?_,fun y c _ h=>?_,fun _=>hd,Around.frames_deeper e0.frames,.inr ⟨rfl,rfl⟩,fun b z=>absurd z (noA b),e0.bs,e0.bsz,fun b _ _=>noA b,fun b z=>absurd z (noA b),e0.funs,e0.frf⟩,
  rfl,e0.bare,Un.kept hk,⟨_,x.toInCall.ns,fun i y v h1 h2 h3=>?_⟩,fun y c h=>⟨_,x.cell y c h⟩,e0.hok.fresh (K2 _),fun y c h=>?_,fun p hp=>absurd (show p∈([]:List (Addr×Obj)) from hp) 0x4,e0.hok.kept hk,?_⟩
 ·exact name_of_addr x.apart (PySem.mem_of_lookup h1) (PySem.mem_of_lookup h2)
 ·have hy:scope.names.lookup y=some .cell\/scope.names.lookup y=some .free:=hy;rcases hy with hy|hy
  ·exact vG hy
  ·exact absurd rfl (S.nofree _ (PySem.mem_of_lookup hy))
 ·exact Nat.le_of_lt (x.above y c (PySem.mem_of_lookup h))
 ·have hi:i<vs.length:=by
   unfold start at h2;by_cases hi:i<vs.length
   ·exact hi
   ·rw [List.getElem?_append_right (by simpa using hi)] at h2;rw [List.getElem?_replicate] at h2;split at h2 <;> cases h2
  have ha:vs[i]?=some v:=by
   unfold start at h2;rw [List.getElem?_append_left (by simpa using hi),List.getElem?_map] at h2;cases e:vs[i]? with
   |none=>rw [e] at h2; cases h2
   |some a=>rw [e] at h2; cases h2; rfl
  obtain ⟨u,hu,rv⟩:=r.get ha;have hp:ps[i]?=some y:=by
   rw [<-S.pre,List.getElem?_take_of_lt 0x1]; exact h1
  have ndP:ps.Nodup:=by rw [<-S.pre]; exact S.nd.sublist (List.take_sublist _ _)
  refine ⟨u,rv,?_⟩;rcases S.par y (List.mem_of_getElem? hp) with k|k
  ·exact .inl ⟨k,rR ndP hp hu k⟩
  ·obtain ⟨c,e⟩:=vG (n:=s.heap.objs.size+1) k;refine .inr ⟨.inl k,c,e,?_⟩;have q:=x.cell y c e;rw [rg ndP hp hu (by show scope.names.lookup y≠_; rw [k]; decide)] at q;exact q
 ·exact e0.hok.fresh (Nat.le_of_lt (x.above y c (PySem.mem_of_lookup h)))
 ·unfold start;show _=N.length;rw [List.length_append,List.length_map,List.length_replicate];lia
theorem C2 {f:Addr} {name qual:Str} {params:Arguments} {body:List Stmt} {scope:Scope} {dV kV doc pm LD ct oc:Value} {an od:Option Addr}
  {NA:Array (Option Value)} {N:List Str} {sp:Sp} (lk:K.lookup f=some ⟨oc,od,.func (PySem.W.fnOf name qual params body scope dV kV doc pm an LD ct),NA⟩) (M':PySem.W.codeIn K LD qual=true) (S:FnScope N ps scope)
  (len:∀vs H Q E,sp vs H Q E->vs.length=ps.length)
  (NQ:∀(A:Around) (outer:List Env) (s:Shared) (H:Hp) (vs:List V) (Q:VK) (E:XK),Room k (A.deeper (envOfC qual scope s.heap.objs.size f LD))->sp vs H Q E ->
   ∃t,qQ (fj CX P w K mg base N qual scope f LD A outer s H E) body t/\t { nx:=fun _ H'=>Q .non H',rt:=Q } (start N vs) H) :
  FnOk P w K mg base CX (k+1) f (PySem.W.fnOf name qual params body scope dV kV doc pm an LD ct) ps sp:=by
 refine ⟨len,fun A outer s H args us vs Q E hr e0 hb r MK=>?_⟩;have hl:=len _ _ _ _ MK;have KX:K.In s.heap:=e0.mod.kin.keeps fun b o e=>(e0.bs b o e).1;have lim:s.heap.NoLimit:=e0.mod.nolimit.keeps fun b o e=>(e0.bs b o e).1;have hkind:∀y∈ps.zip us,scope.names.lookup y.1=some .local\/(scope.names.lookup y.1=some .cell/\((cellsFrom (s.heap.objs.size+1) scope.names []).lookup y.1).isSome=true):=fun ⟨n,v⟩ hy=>by
  rcases S.par n (List.of_mem_zip hy).1 with q|q
  ·exact .inl q
  ·exact .inr ⟨q,PySem.W.cellsFrom_some _ _ _ (.inl q)⟩
 refine codeAny_call_function hr.depth (KX _ _ lk) rfl S.co S.gen rfl (PySem.W.codeRec_of KX M') (hb _ _ _ _ ?_);refine wpAny_newFunctionEnv_cells S.kind hkind fun env he s1 x=>?_;subst he;refine ⟨lim.keeps x.toInCall.keep,codeAny_func ?_⟩;obtain ⟨t,ht,hq⟩:=NQ A outer s H vs Q E (hr.deeper _) MK;have I:Inv (fj CX P w K mg base N qual scope f LD A outer s H E) [] (start N vs) H s1:=zU S hr.hd e0 hl r x;refine wpAny_mono (ht [] s1 (start N vs) H _ I hq) (fun fl s' hs=>?_) fun e s' hs=>hs;have fin:∀{σ':St} {H':Hp} {v:V} {u:Value},Inv (fj CX P w K mg base N qual scope f LD A outer s H E) [] σ' H' s'->bJ v u->Q v H'->CE outer P w H s Q u s':=
  fun {σ' H' v u} J rv q=>⟨v,H',J.os,J.bare,J.base,J.hok,rv,q⟩
 cases fl with
 |ret u=>
  obtain ⟨v,σ',H',J,rv,q⟩:=hs;exact fin J rv q
 |next=>
  obtain ⟨σ',H',J,q⟩:=hs;exact fin (v:=V.non) (u:=Value.none) J rfl q
 |brk=>
  obtain ⟨_,_,_,q⟩:=hs;exact False.elim q
 |cont=>
  obtain ⟨_,_,_,q⟩:=hs;exact False.elim q
section
variable {X:Cx} {x:Str} {p pos:Pos} {e:Expr} {es:List Expr} {t:TA} {id T:String} {r:List V->Hp->VK->Prop}
def Ks (r:List V->Hp->VK->Prop) (t:TA):TE:=fun σ H Q=>t σ H fun vs H1=>r vs H1 Q
theorem AK (hc:l7 X (.builtin id) r) (hg:Gl X x) (hm:X.mg x=none) (hv:bootBuiltins x=some (.builtin id)) (ha:PA X (e::es) t) (hn:x ≠ "__name__" :=by decide) (Mi:(x==("__debug__" : Str))=false:=by decide)
  (he:starEach (e::es) X.env=(false,eval e X.env)::starEach es X.env:=by rfl) (L9:(backTo pos (starEach es X.env)).any (·.1)=false:=by rfl):PE X (.Call (.Name x p) (e::es) [] pos) (Ks r t):=by
 intro pins s σ H Q I h;refine wpAny_Call_Name_kw (lj I hg hm hv ?_ hn Mi);exact PyProof.Rows.callWith_builtin1 (cG (ha pos pins s σ H _ I h) fun us s1 ⟨vs,H1,I1,r1,q1⟩=>hc pins s1 σ H1 vs us Q I1 r1 q1) he L9
theorem Ab (hc:l7 X (.type T) r) (hg:Gl X x) (hm:X.mg x=none) (hv:bootBuiltins x=some (.type T)) (ha:PA X (e::es) t) (hn:x ≠ "__name__" :=by decide) (Mi:(x==("__debug__" : Str))=false:=by decide)
  (he:starEach (e::es) X.env=(false,eval e X.env)::starEach es X.env:=by rfl) (L9:(backTo pos (starEach es X.env)).any (·.1)=false:=by rfl):PE X (.Call (.Name x p) (e::es) [] pos) (Ks r t):=by
 intro pins s σ H Q I h;refine wpAny_Call_Name_kw (lj I hg hm hv ?_ hn Mi);exact PyProof.Rows.callWith_type1 (cG (ha pos pins s σ H _ I h) fun us s1 ⟨vs,H1,I1,r1,q1⟩=>hc pins s1 σ H1 vs us Q I1 r1 q1) he L9
end
end L2
namespace HT
open PySem PyProof.Rows
noncomputable def lexLt:List Int->List Int->Bool
 |[],[]=>false
 |[],_::_=>true
 |_::_,[]=>false
 |x::xs,y::ys=>if x=y then lexLt xs ys else decide (x<y)
theorem lexLt_cons (x y:Int) (xs ys:List Int):lexLt (x::xs) (y::ys)=if x=y then lexLt xs ys else decide (x<y):=rfl
section
open PySem.SeqAt
open PySem.AutoSeq1 (wpAny_loadPart')
open PySem.MeetsSeq PySem.MeetsSeq2 PySem.MeetsSeq3
end
section
variable {prog:Program} {w:World} {A:Around} {E:Value->Shared->Prop} {s:Shared}
theorem cat_tup {t b:Addr} {vs ws:List Value} {Q:Value->Shared->Prop} (ht:IsTup s.heap t vs.toArray) (hb:IsTup s.heap b ws.toArray) (hv:vs≠[])
  (h1:ws=[]->Q (.ref t) s) (h2:ws≠[]->Q (.ref s.heap.objs.size) { s with heap:=s.heap.push { cls:=.type "tuple",data:=.seq (vs++ws).toArray } })
  (Ny:vs.length+ws.length<=sizeLine):wpAny (model prog w) A (binaryOp .Add (.ref t) (.ref b)) Q E s:=by
 obtain ⟨⟨cls,dd,data,sl⟩,ho,hc,n,hd⟩:=id ht;obtain ⟨⟨cls2,N9,data2,NF⟩,ho2,hc2,n2,hd2⟩:=id hb;simp only at hc hd hc2 hd2;subst hc hd hc2 hd2;have e:vs.toArray++ws.toArray=(vs++ws).toArray:=by simp
 by_cases hw:ws=[]
 ·exact concat_meets ⟨_,ho,rfl⟩ ⟨_,ho2,rfl⟩ noFill_tuple_add seq_tuple_add PySem.F.slot_tuple_add PySem.F.entry_tuple_add (PySem.F.args_tuple_add_2 _ _)
   (tuple_addW1 t b vs.toArray ws.toArray n n2 dd N9 sl NF (by simpa using hv) (by simp [hw])) ⟨ho,ho2,h1 hw⟩
 ·refine concat_meets ⟨_,ho,rfl⟩ ⟨_,ho2,rfl⟩ noFill_tuple_add seq_tuple_add PySem.F.slot_tuple_add PySem.F.entry_tuple_add (PySem.F.args_tuple_add_2 _ _)
   (tuple_addW2 t b vs.toArray ws.toArray n n2 dd N9 sl NF (by simpa using hv) (by simpa using hw) (by rw [List.size_toArray,List.size_toArray]; exact Ny)) ⟨ho,ho2,?_⟩
  rw [e];exact h2 hw
noncomputable def sIx (n d:Nat):Option Int->Nat
 |none=>d
 |some v=>if v<0 then (v+(n:Int)).toNat else min v.toNat n
theorem sIx_none (n d:Nat):sIx n d none=d:=rfl
theorem sIx_nat (n d k:Nat):sIx n d (some (k:Int))=min k n:=by
 show (if (k:Int)<0 then ((k:Int)+(n:Int)).toNat else min (k:Int).toNat n)=min k n;rw [if_neg 0x1,Int.toNat_natCast]
end
end HT
namespace L2
open PySem PySem.Spec PyProof.Rows
abbrev TO:=St->Hp->(Option Int->Hp->Prop)->Prop
def PO (X:Cx) (e:Option Expr) (t:TO):Prop:=
 ∀(pins:List (Addr×Obj)) (s:Shared) (σ:St) (H:Hp) (Q:Option Int->Hp->Prop),Inv X pins σ H s->t σ H Q ->
  wpAny (model X.prog X.w) X.A (evalPart e X.env) (fun u s'=>∃o H',Inv X pins σ H' s'/\IsPart u o/\Q o H') X.xe s
noncomputable def EX:TO:=fun _ H Q=>Q none H
noncomputable def IV (t:TE):TO:=fun σ H Q=>t σ H fun x H1=>∃i,x=.int i/\Q (some i) H1
section
variable {X:Cx} {e:Expr} {te:TE} {lo hi:Option Expr} {tl th:TO} {pos p2:Pos}
theorem yJ:PO X none EX:=by
 intro pins s σ H Q I h;rw [evalPart_none];exact K4 ⟨none,H,I,.none,h⟩
theorem yM (h:PE X e te):PO X (some e) (IV te):=by
 intro pins s σ H Q I hw;rw [evalPart_some];refine cG (h pins s σ H _ I hw) fun u s1 ⟨x,H1,I1,r1,q1⟩=>?_;obtain ⟨i,rfl,q⟩:=q1;obtain ⟨t,rfl⟩:=r1;exact ⟨some i,H1,I1,.int i t,q⟩
def Kr (X:Cx) (r:V->Option Int->Option Int->Hp->VK->Prop):Prop:=
 ∀(pins:List (Addr×Obj)) (s:Shared) (σ:St) (H:Hp) (x:V) (v vl vu:Value) (lo hi:Option Int) (sl:Addr) (Q:VK),Inv X pins σ H s->bJ x v->s.heap.IsSliceOf sl vl vu .none->IsPart vl lo->IsPart vu hi->r x lo hi H Q ->
  ∃T id,typeLookup (.type T) "__getitem__" = pure (some (.builtin id))/\s.TypeIs v T/\wpAny (model X.prog X.w) X.A (getItem v (.ref sl)) (EP X pins σ Q) X.xe s
def KG (r:V->Option Int->Option Int->Hp->VK->Prop) (te:TE) (tl th:TO):TE:=fun σ H Q=>te σ H fun x H1=>tl σ H1 fun l H2=>th σ H2 fun u H3=>r x l u H3 Q
theorem wd {r:V->Option Int->Option Int->Hp->VK->Prop} (hr:Kr X r) (he:PE X e te) (hl:PO X lo tl) (hu:PO X hi th):PE X (.Subscript e (.Slice lo hi none p2) pos) (KG r te tl th):=by
 intro pins s σ H Q I h;refine Subscript_ (cG (he pins s σ H _ I h) fun v s1 ⟨x,H1,I1,r1,q1⟩=>?_);refine wpAny_Slice (cG (hl pins s1 σ H1 _ I1 q1) fun vl s2 ⟨l,H2,I2,pl,q2⟩=>cG (hu pins s2 σ H2 _ I2 q2) fun vu s3 ⟨u,H3,I3,pu,q3⟩=>?_);rw [evalPart_none];refine K4 ?_;have I4:Inv X pins σ H3 { s3 with heap:=s3.heap.push { cls:=.type "slice",data:=.fields #[vl,vu,.none] } }:=I3.kept (t':=s3.toks) fun b ob q=>KW _ q;obtain ⟨T,id,hT,ht,hg⟩:=hr pins { s3 with heap:=s3.heap.push { cls:=.type "slice",data:=.fields #[vl,vu,.none] } } σ H3 x v vl vu l u s3.heap.objs.size Q I4 r1 (Heap.IsSliceOf.new ..) pl pu q3;show wpAny (model X.prog X.w) X.A (subscriptTail e (.Slice lo hi none p2) v (.ref s3.heap.objs.size)) (EP X pins σ Q) X.xe { s3 with heap:=s3.heap.push { cls:=.type "slice",data:=.fields #[vl,vu,.none] } };exact tail_any (ops:=[.ref s3.heap.objs.size,v]) ht hT hg (by with_unfolding_all rfl)
noncomputable def Ag (xs:List V) (lo hi:Option Int):List V:=(xs.drop (HT.sIx xs.length 0 lo)).take (HT.sIx xs.length xs.length hi-HT.sIx xs.length 0 lo)
theorem wk (xs:List V) (lo hi:Option Int):(Ag xs lo hi).length<=xs.length:=by
 unfold Ag;rw [List.length_take,List.length_drop];lia
noncomputable def Jq (K:Lb):R2:=fun x y H Q=>∃a b xs ys,x=.ref a/\y=.ref b/\kM K H a xs/\kM K H b ys/\xs≠[]/\xs.length+ys.length<=sizeLine /\
 (ys=[]->Q (.ref a) H)/\(ys≠[]->∀p,H p=none->Q (.ref p) (bX H p (.tup (xs++ys))))
theorem aX.nil_iff {xs:List V} {us:List Value} (r:aX xs us):us=[]↔xs=[]:=by
 cases r with
 |nil=>simp
 |cons _ _=>simp
theorem Fg:uM X (binaryOp .Add) (Jq X.K):=by
 intro pins s σ H x y v u Q I rx ry h;obtain ⟨a,b,xs,ys,rfl,rfl,ha,hb,hx,hz,q1,q2⟩:=h;cases rx;cases ry;obtain ⟨B',r1,p1,_⟩:=I.tuple ha;obtain ⟨MY,r2,p2,_⟩:=I.tuple hb;refine HT.cat_tup p1 p2 (fun z=>hx (r1.nil_iff.mp z)) (fun z=>⟨.ref a,H,I,rfl,q1 (r2.nil_iff.mp z)⟩) (fun z=>?_) (by rw [<-r1.length,<-r2.length]; exact hz);refine ⟨.ref s.heap.objs.size,_,I.laid (t':=s.toks) (o:=.tup (xs++ys)) (fun b ob q=>KW _ q) (K2 _) ?_,rfl,q2 (fun w=>z (r2.nil_iff.mpr w)) _ (I.hok.fresh (K2 _))⟩;exact ⟨by rw [List.length_append]; exact hz,_,r1.append r2,IsTup.new _ _⟩
end
noncomputable def Ej (n:Nat) (i:Int):Option Nat:=if 0<=i then (if i<n then some i.toNat else none) else if -(n:Int)<=i then some (i+n).toNat else none
noncomputable def atI {α:Type} (xs:List α) (i:Int):Option α:=(Ej xs.length i).bind fun j=>xs[j]?
variable {n:Nat}
theorem Ez {i:Int} {j:Nat} (h:Ej n i=some j):seqIndex? i n=some j/\j<n/\-(n:Int)<=i/\i<n:=by
 unfold Ej at h;by_cases h0:0<=i
 ·rw [if_pos h0] at h;by_cases h1:i<n
  ·rw [if_pos h1] at h;have e:i.toNat=j:=Lw h;exact ⟨by rw [seqIndex_of h0 h1,e],0x1,0x1,h1⟩
  ·rw [if_neg h1] at h; cases h
 ·rw [if_neg h0] at h;by_cases h1:-(n:Int)<=i
  ·rw [if_pos h1] at h;have e:(i+n).toNat=j:=Lw h;exact ⟨by rw [seqIndex_neg 0x1 h1,e],0x1,h1,0x1⟩
  ·rw [if_neg h1] at h; cases h
theorem sQ {α:Type} {xs:List α} {i:Int} {v:α} (h:atI xs i=some v):∃j,seqIndex? i xs.length=some j/\xs[j]?=some v/\j<xs.length/\-(xs.length:Int)<=i/\i<xs.length:=by
 unfold atI at h;cases e:Ej xs.length i with
 |none=>rw [e] at h; cases h
 |some j=>
  rw [e] at h;obtain ⟨h1,h2,h3,h4⟩:=Ez e;exact ⟨j,h1,h,h2,h3,h4⟩
def uE (b:Expr):Prop:=∀o i,subscripted b false o i=operate [o,i] (getItem o i)
def DK (X:Cx) (r:R2):Prop:=
 ∀(value slice:Expr) (pins:List (Addr×Obj)) (s:Shared) (σ:St) (H:Hp) (x y:V) (v u:Value) (Q:VK),Inv X pins σ H s->bJ x v->bJ y u->r x y H Q ->
  subscripted slice false v u=operate [v,u] (getItem v u)->wpAny (model X.prog X.w) X.A (subscriptTail value slice v u) (EP X pins σ Q) X.xe s
def JF (X:Cx) (id:String) (r:V->List V->Hp->VK->Prop):Prop:=
 ∀(pins:List (Addr×Obj)) (s:Shared) (σ:St) (H:Hp) (x:V) (xs:List V) (v:Value) (us:List Value) (Q:VK),Inv X pins σ H s->bJ x v->aX xs us->r x xs H Q ->
  wpAny (model X.prog X.w) X.A (call (.builtin id) (v::us)) (EP X pins σ Q) X.xe s
section
variable {X:Cx} {a b:Expr} {ta tb:TE} {pos:Pos}
theorem DK.or {r r':R2} (h:DK X r) (h':DK X r'):DK X (fun x y H Q=>r x y H Q\/r' x y H Q):=by
 intro value slice pins s σ H x y v u Q I rx ry q hs;rcases q with q|q
 ·exact h value slice pins s σ H x y v u Q I rx ry q hs
 ·exact h' value slice pins s σ H x y v u Q I rx ry q hs
theorem Fw {r:R2} (hr:DK X r) (ha:PE X a ta) (hb:PE X b tb) (hs:uE b):PE X (.Subscript a b pos) (KP r ta tb):=by
 intro pins s σ H Q I h;exact Subscript_ (JH ha hb I h fun v u s2 x y H2 I2 rx ry q=>hr a b pins s2 σ H2 x y v u Q I2 rx ry q (hs _ _))
noncomputable def Io (K:Lb):R2:=fun x y H Q=>∃p xs i v,x=.ref p/\y=.int i/\eN K H p xs/\atI xs i=some v/\Q v H
noncomputable def IZ (K:Lb):R2:=fun x y H Q=>∃p xs i v,x=.ref p/\y=.int i/\kM K H p xs/\atI xs i=some v/\Q v H
noncomputable def Iv:R2:=fun x y H Q=>∃z i c,x=.str z/\y=.int i/\z.length<=sizeLine/\atI z.cps.toList i=some c/\Q (.str ⟨#[c]⟩) H
theorem Ew:DK X (Io X.K):=by
 intro value slice pins s σ H x y v u Q I rx ry h hs;obtain ⟨p,xs,i,z,rfl,rfl,hq,he,q⟩:=h;cases rx;obtain ⟨t,rfl⟩:=ry;obtain ⟨B',r,pl,hz⟩:=I.list hq;obtain ⟨j,h1,h2,h3,h4,h5⟩:=sQ he;obtain ⟨w,ew,rw'⟩:=r.get h2;have hl:=r.length;have hn:=qz;have fin:EP X pins σ Q w s:=⟨z,H,I,rw',q⟩;by_cases h0:0<=i
 ·have hj:i.toNat=j:=by
   rw [seqIndex_of h0 h5] at h1;exact Lw h1
  exact item_listR pl.isList h0 0x1 (by rw [hj]; simpa using ew) fin hs
 ·have hj:(i+(B'.toArray.size:Int)).toNat=j:=by
   rw [seqIndex_neg 0x1 h4] at h1;rw [List.size_toArray,<-hl];exact Lw h1
  exact subscriptTail_builtinR (x:=w) pl.isList.typeIs slot_list_getitem.lookup
   (wpAny_getItem_list_neg (Q:=fun r s'=>r=w/\EP X pins σ Q r s') pl.isList 0x1 (by rw [List.size_toArray] <;> lia) 0x1 (by rw [hj]; simpa using ew) ⟨rfl,fin⟩) hs
theorem HL:DK X (IZ X.K):=by
 intro value slice pins s σ H x y v u Q I rx ry h hs;obtain ⟨p,xs,i,z,rfl,rfl,hq,he,q⟩:=h;cases rx;obtain ⟨t,rfl⟩:=ry;obtain ⟨B',r,pl,hz⟩:=I.tuple hq;obtain ⟨j,h1,h2,h3,h4,h5⟩:=sQ he;obtain ⟨w,ew,rw'⟩:=r.get h2;have hl:=r.length;have hn:=qz;have fin:EP X pins σ Q w s:=⟨z,H,I,rw',q⟩;exact subscriptTail_builtinR (x:=w) pl.typeIs slot_tuple_getitem.lookup
  (getItem_tuple (j:=j) (Q:=fun r s'=>r=w/\EP X pins σ Q r s') pl 0x1 0x1 (by rw [List.size_toArray,<-hl]; exact h1) (by simpa using ew) ⟨rfl,fin⟩) hs
theorem GK:DK X Iv:=by
 intro value slice pins s σ H x y v u Q I rx ry h hs;obtain ⟨z,i,c,rfl,rfl,hz,he,q⟩:=h;obtain ⟨t,rfl⟩:=rx;obtain ⟨t',rfl⟩:=ry;obtain ⟨j,h1,h2,h3,h4,h5⟩:=sQ he;have hl:z.cps.toList.length=z.length:=by simp [Str.length]
 rw [hl] at h1 h4 h5;have hn:=qz;exact tail_any (typeIs_str s z t) slot_str_getitem.lookup (getItem_str (c:=c) (by
  have e1:decide (i < -(2 ^ 63:Int))=false:=Lr 0x1;have e2:decide (i>=2 ^ 63)=false:=Lr 0x1;rw [e1,e2,Bool.or_false]) (by rw [h1]; simpa using h2) ⟨.str ⟨#[c]⟩,H,I.tok _,⟨_,rfl⟩,q⟩) hs
noncomputable def KH (K:Lb):R2:=fun x y H Q=>Io K x y H Q\/IZ K x y H Q\/Iv x y H Q
theorem Cq:DK X (KH X.K):=Ew.or (HL.or GK)
theorem Inv.lst {pins:List (Addr×Obj)} {σ:St} {H:Hp} {s:Shared} {p:Addr} {xs:List V} (I:Inv X pins σ H s) (h:H p=some (.lst xs)) :
  ∃(B':List Value) (n:Nat),aX xs B'/\s.heap.get? p=some { cls:=.type "list",data:=.seq B'.toArray n }/\xs.length<=sizeLine:=by
 obtain ⟨z,B',n,r,e⟩:=I.hok p _ h;exact ⟨B',n,r,e,z⟩
theorem ue (lo hi:Option Int) (n:Nat):(sliceBounds lo hi none n).1=((HT.sIx n 0 lo:Nat):Int)/\(sliceBounds lo hi none n).2.1=((HT.sIx n n hi:Nat):Int)/\(sliceBounds lo hi none n).2.2=1:=by
 refine ⟨?_,?_,rfl⟩
 ·cases lo with
  |none=>simp [sliceBounds,HT.sIx]
  |some i=>
   simp only [sliceBounds,HT.sIx,Option.getD_none,show (1:Int)>0 by decide,if_true];by_cases h:i<0
   ·simp only [h,if_true] <;> lia
   ·simp only [h,if_false] <;> lia
 ·cases hi with
  |none=>simp [sliceBounds,HT.sIx]
  |some i=>
   simp only [sliceBounds,HT.sIx,Option.getD_none,show (1:Int)>0 by decide,if_true];by_cases h:i<0
   ·simp only [h,if_true] <;> lia
   ·simp only [h,if_false] <;> lia
theorem qO (B':List Value) (lo hi:Option Int):slicePick B'.toArray lo hi none=((B'.drop (HT.sIx B'.length 0 lo)).take (HT.sIx B'.length B'.length hi-HT.sIx B'.length 0 lo)).toArray:=by
 obtain ⟨h1,h2,h3⟩:=ue lo hi B'.toArray.size;unfold slicePick;rw [h1,h2,h3];simp only [sliceRange_one,pick_run,List.size_toArray] <;> rfl
def Jo (K:Lb):V->Option Int->Option Int->Hp->VK->Prop:=fun x lo hi H Q=>∃a xs,x=.ref a/\eN K H a xs/\∀p,H p=none->Q (.ref p) (bX H p (.lst (Ag xs lo hi)))
theorem yf:Kr X (Jo X.K):=by
 intro pins s σ H x v vl vu lo hi sl Q I rx hs pl pu h;obtain ⟨a,xs,rfl,hx,q⟩:=h;cases rx;obtain ⟨B',r,ht,hz⟩:=I.list hx;have hlen:=r.length;refine ⟨"list",_,slot_list_getitem.lookup,ht.isList.typeIs,?_⟩;refine wpAny_getItem_list_slice ht.isList hs pl pu .none 0x4 ?_ (by rw [List.size_toArray] <;> lia);rw [qO,<-hlen];refine ⟨.ref s.heap.objs.size,_,I.laid (t':=s.toks) (o:=.lst (Ag xs lo hi)) (fun b ob q=>KW _ q) (K2 _) ?_,rfl,q _ (I.hok.fresh (K2 _))⟩;exact ⟨Lp (wk xs lo hi) hz,_,0,(r.drop (HT.sIx xs.length 0 lo)).take (HT.sIx xs.length xs.length hi-HT.sIx xs.length 0 lo),Lv _ rfl⟩
theorem mI:l7 X (.builtin "len") (fun xs H Q=>∃p ys,xs=[.ref p]/\(eN X.K H p ys\/kM X.K H p ys)/\Q (.int ys.length) H):=by
 intro pins s σ H xs us Q I r h;obtain ⟨p,ys,rfl,hq,q⟩:=h;obtain ⟨u,rfl,rx⟩:=pq r;cases rx;have hn:=qz;rcases hq with hq|hq
 ·obtain ⟨B',r',pl,hz⟩:=I.list hq;have hlen:=r'.length;exact Calls.call_len_list pl.isList (by simp only [List.size_toArray] <;> lia) ⟨.int ys.length,H,I.tok _,⟨s.toks+1,by rw [List.size_toArray,hlen]⟩,q⟩
 ·obtain ⟨B',r',pl,hz⟩:=I.tuple hq;have hlen:=r'.length;exact len_tuple pl (by simp only [List.size_toArray] <;> lia) ⟨.int ys.length,H,I.tok _,⟨s.toks+1,by rw [List.size_toArray,hlen]⟩,q⟩
theorem sF:l7 X (.type "list") (fun xs H Q=>∃p ys,xs=[.ref p]/\(eN X.K H p ys\/kM X.K H p ys)/\∀l,H l=none->Q (.ref l) (bX H l (.lst ys))):=by
 intro pins s σ H xs us Q I r h;obtain ⟨p,ys,rfl,hq,q⟩:=h;obtain ⟨u,rfl,rx⟩:=pq r;cases rx;have fin:∀(B':List Value),aX ys B'->ys.length<=sizeLine->∀(h':Heap) (c':Nat),(∀b o',s.heap.get? b=some o'->h'.get? b=some o') ->
   h'.get? s.heap.objs.size=some { cls:=.type "list",dict:=none,data:=.seq B'.toArray c',slots:=#[] }->EP X pins σ Q (.ref s.heap.objs.size) { s with heap:=h' }:=fun B' r' hz h' c' kp e=>
  ⟨.ref s.heap.objs.size,_,I.laid (t':=s.toks) kp (K2 _) (show cR X.prog X.w _ h' _ (.lst ys) from ⟨hz,B',c',r',e⟩),rfl,q _ (I.hok.fresh (K2 _))⟩
 rcases hq with hq|hq
 ·obtain ⟨B',r',pl,hz⟩:=I.list hq;have hlen:=r'.length;obtain ⟨o,ho,hc,n,hd⟩:=pl.isList;exact call_list_seq p (.inl rfl) ho hc hd (fun h' c' kp e=>fin B' r' hz h' c' kp e) (by simp only [List.size_toArray] <;> lia)
 ·obtain ⟨B',r',pl,hz⟩:=I.tuple hq;have hlen:=r'.length;obtain ⟨o,ho,hc,n,hd⟩:=pl;exact call_list_seq p (.inr rfl) ho hc hd (fun h' c' kp e=>fin B' r' hz h' c' kp e) (by simp only [List.size_toArray] <;> lia)
theorem qY:l7 X (.type "tuple") (fun xs H Q=>∃p ys,xs=[.ref p]/\((eN X.K H p ys/\∀l,H l=none->Q (.ref l) (bX H l (.tup ys)))\/(kM X.K H p ys/\Q (.ref p) H))):=by
 intro pins s σ H xs us Q I r h;obtain ⟨p,ys,rfl,h⟩:=h;obtain ⟨u,rfl,rx⟩:=pq r;cases rx;rcases h with ⟨hq,q⟩|⟨hq,q⟩
 ·obtain ⟨B',r',pl,hz⟩:=I.list hq;have hlen:=r'.length;refine call_tuple_list pl.isList (fun h' kp=>?_) (by simp only [List.size_toArray] <;> lia);have I1:Inv X pins σ H { s with heap:=h' }:=I.kept (t':=s.toks) kp;have I2:Inv X pins σ (bX H h'.objs.size (.tup ys)) { s with heap:=h'.push { cls:=.type "tuple",data:=.seq B'.toArray } }:=
   I1.laid (t':=s.toks) (fun b o e=>KW _ e) (K2 _) (show cR X.prog X.w _ _ _ (.tup ys) from ⟨hz,B',r',IsTup.new _ _⟩)
  exact ⟨.ref h'.objs.size,_,I2,rfl,q _ (I1.hok.fresh (K2 _))⟩
 ·obtain ⟨B',r',pl,hz⟩:=I.tuple hq;exact call_tuple_same pl ⟨.ref p,H,I,rfl,q⟩
def Kj (K:Lb) (T:String) (x:V) (H:Hp):Prop:=match x with
 |.str _=>T = "str"
 |.int _=>T = "int"
 |.ref p=>(T = "list" /\ ∃xs,eN K H p xs)\/(T = "tuple" /\ ∃o,K.lookup p=some o/\o.cls=.type "tuple" /\ o.dict=none) \/
   (T = "dict" /\ ((∃kvs,H p=some (.dK kvs))\/∃kvs,H p=some (.dT kvs)))\/(T = "set" /\ ∃S n,H p=some (.set S n))
 |_=>False
theorem Gz {pins:List (Addr×Obj)} {σ:St} {H:Hp} {s:Shared} {T:String} {x:V} {v:Value} (I:Inv X pins σ H s) (r:bJ x v) (ty:Kj X.K T x H) :
  s.TypeIs v T/\∀a,v=.ref a->∃ob,s.heap.get? a=some ob/\ob.dict=none:=by
 cases x with
 |str z=>
  obtain ⟨t,rfl⟩:=r;cases (show T = "str" from ty);exact ⟨typeIs_str s z t,fun _ e=>nomatch e⟩
 |int i=>
  obtain ⟨t,rfl⟩:=r;cases (show T = "int" from ty);exact ⟨typeIs_int s i t,fun _ e=>nomatch e⟩
 |ref p=>
  cases r;rcases ty with ⟨rfl,xs,hq⟩|⟨rfl,o,hk,hc,hd⟩|⟨rfl,hk⟩|⟨rfl,S,n,hk⟩
  ·obtain ⟨B',_,pl,_⟩:=I.list hq;refine ⟨pl.isList.typeIs,fun a e=>?_⟩;cases e;obtain ⟨o,n,e,c,hd,_⟩:=pl;exact ⟨o,e,hd⟩
  ·refine ⟨⟨o,I.kIn p o hk,hc⟩,fun a e=>?_⟩;cases e;exact ⟨o,I.kIn _ o hk,hd⟩
  ·have z:∃o,s.heap.get? p=some o/\o.ExactDict:=by
    rcases hk with ⟨kvs,hk⟩|⟨kvs,hk⟩
    ·obtain ⟨_,_,_,_,o,_,_,e,ex,_⟩:=I.hok p _ hk;exact ⟨o,e,ex⟩
    ·obtain ⟨_,_,_,_,o,_,_,e,ex,_⟩:=I.hok p _ hk;exact ⟨o,e,ex⟩
   obtain ⟨o,e,ex⟩:=z;refine ⟨⟨o,e,ex.1⟩,fun a e2=>?_⟩;cases e2;exact ⟨o,e,ex.2.1⟩
  ·obtain ⟨o,_,_,_,e,ex,_⟩:=I.hok p _ hk;refine ⟨⟨o,e,ex.1⟩,fun a e2=>?_⟩;cases e2;exact ⟨o,e,ex.2.1⟩
 |_=>exact False.elim ty
def Ku (K:Lb) (T:String) (r:V->List V->Hp->VK->Prop) (to:TE) (t:TA):TE:=fun σ H Q=>to σ H fun x H1=>Kj K T x H1/\t σ H1 fun xs H2=>r x xs H2 Q
variable {o e:Expr} {es:List Expr} {to:TE} {t:TA} {name:Str} {apos F':Pos} {T id:String} {r:V->List V->Hp->VK->Prop}
theorem vi (pa:PlainAttrs T) (slot:Slot T name id) (hty:typeOf (.builtin id)=pure (.type "method_descriptor")) (hm:JF X id r) (ho:PE X o to) (ha:PA X (e::es) t)
  (L8:attributeBase o name X.env (eval o X.env)=eval o X.env:=by rfl)
  (ML:((backTo F' (starEach (e::es) X.env)).all (fun x=>!x.1)&&(backToKw F' (keywordEach [] X.env)).all (fun x=>x.1.isSome)
   && decide ((e::es).length+([]:List Keyword).length+(if ([]:List Keyword).isEmpty then 0 else 1)<30))=true:=by rfl)
  (L7:(apos.endLine==F'.line)=true:=by rfl) (hs:starEach (e::es) X.env=(false,eval e X.env)::starEach es X.env:=by rfl) (LV:(backTo F' (starEach es X.env)).any (·.1)=false:=by rfl) :
  PE X (.Call (.Attribute o name apos) (e::es) [] F') (Ku X.K T r to t):=by
 intro pins s σ H Q I h;refine wpAny_Call_method_late L8 ML L7 rfl (cG (ho pins s σ H _ I h) fun v s1 ⟨x,H1,I1,r1,ty,q1⟩=>?_);obtain ⟨h1,h2⟩:=Gz I1 r1 ty;refine ⟨T,id,pa,slot,hty,h1,h2,?_⟩;have hA:=ha F' pins s1 σ H1 _ I1 q1;rw [hs] at hA ⊢;refine Calls.callWith_builtin (by show (false||(backTo F' (starEach es X.env)).any (·.1))=false; rw [LV] <;> rfl) (Calls.evalArgs_plain ?_);exact cG hA fun us s2 ⟨vs,H2,I2,r2,q2⟩=>hm pins s2 σ H2 x vs v us Q I2 r1 r2 q2
end
def Ko (X:Cx) (id:String) (r:V->List V->Hp->VK->Prop):Prop:=
 ∀(pins:List (Addr×Obj)) (s:Shared) (σ:St) (H:Hp) (x:V) (xs:List V) (v:Value) (us:List Value) (Q:VK),Inv X pins σ H s->bJ x v->aX xs us->r x xs H Q ->
  wpAny (model X.prog X.w) X.A (call (.builtin id) (v::us)) (EP X pins σ Q) X.xe s
theorem aX.one:∀{x:V} {us:List Value},aX [x] us->∃u,us=[u]/\bJ x u
 |_,_,.cons r .nil=>⟨_,rfl,r⟩
theorem aX.two:∀{x y:V} {us:List Value},aX [x,y] us->∃u v,us=[u,v]/\bJ x u/\bJ y v
 |_,_,_,.cons r (.cons q .nil)=>⟨_,_,rfl,r,q⟩
theorem aX.zero:∀{us:List Value},aX [] us->us=[]
 |_,.nil=>rfl
theorem aX.eraseIdx:∀{xs:List V} {us:List Value} (i:Nat),aX xs us->aX (xs.eraseIdx i) (us.eraseIdx i)
 |_,_,_,.nil=>.nil
 |_,_,0,.cons _ t=>t
 |_,_,i+1,.cons r t=>.cons r (aX.eraseIdx i t)
theorem aX.reverse {xs:List V} {us:List Value} (h:aX xs us):aX xs.reverse us.reverse:=by
 induction h with
 |nil=>exact .nil
 |cons r t ih=>rw [List.reverse_cons,List.reverse_cons]; exact aX.append ih (.cons r .nil)
theorem aX.rep {xs:List V} {us:List Value} (h:aX xs us):∀k:Nat,aX (List.replicate k xs).flatten (List.replicate k us).flatten
 |0=>.nil
 |k+1=>by
  rw [List.replicate_succ,List.replicate_succ,List.flatten_cons,List.flatten_cons];exact aX.append h (aX.rep h k)
theorem su {α:Type}:∀(l:List α) (i:Nat),(l.eraseIdx i).length<=l.length
 |[],_=>K2 _
 |_::_,0=>Nat.le_succ _
 |_::r,i+1=>Nat.succ_le_succ (su r i)
theorem rS (B':List Value):∀(k:Nat) (acc:List Value),
  List.foldl (fun x1 x2=>x1++x2) acc.toArray (List.replicate k B'.toArray)=(acc++(List.replicate k B').flatten).toArray
 |0,acc=>by simp
 |k+1,acc=>by
  have e:acc.toArray++B'.toArray=(acc++B').toArray:=by simp
  have e2:(acc++B')++(List.replicate k B').flatten=acc++(List.replicate (k+1) B').flatten:=by
   rw [List.replicate_succ,List.flatten_cons,List.append_assoc]
  rw [<-e2,<-rS B' k (acc++B'),<-e,List.replicate_succ,List.foldl_cons]
section
variable {X:Cx} {pins:List (Addr×Obj)} {σ:St} {H:Hp} {s:Shared} {l b:Addr} {xs ys zs:List V}
theorem Inv.lset {B' its':List Value} {f:Array Value->Array Value} {t':Nat} (I:Inv X pins σ H s) (hH:H l=some (.lst xs))
  (e:s.heap.get? l=some { cls:=.type "list",data:=.seq B'.toArray n }) (hf:f B'.toArray=its'.toArray) (hv:aX ys its') (hz:ys.length<=sizeLine) :
  Inv X pins σ (bX H l (.lst ys)) { s with heap:=s.heap.update l (Obj.mapSeq f),toks:=t' }:=by
 have q:=PySem.IsL.update e f;rw [hf] at q;refine I.write (x:=l) (e:=l) (by rw [hH]; exact trivial) (.inl rfl) (fun b' u hb hu=>(Heap.get?_update_other s.heap (Obj.mapSeq f) (Ne.symm hb)).trans hu) ⟨_,q⟩ ?_;exact ⟨hz,its',_,hv,q⟩
theorem Inv.lnew {B':List Value} {t':Nat} (I:Inv X pins σ H s) (hv:aX ys B') (hz:ys.length<=sizeLine) :
  Inv X pins σ (bX H s.heap.objs.size (.lst ys)) { s with heap:=s.heap.push { cls:=.type "list",data:=.seq B'.toArray },toks:=t' }:=
 I.laid (fun _ _ q=>KW _ q) (K2 _) ⟨hz,B',0,hv,Lv _ rfl⟩
theorem Inv.fresh (I:Inv X pins σ H s):H s.heap.objs.size=none:=I.hok.fresh (K2 _)
theorem Inv.lstM (I:Inv X pins σ H s) (hH:H l=some (.lst xs)):xs.length<=sizeLine/\∃(B':List Value) (n:Nat),aX xs B'/\xs.length=B'.length/\s.heap.get? l=some { cls:=.type "list",data:=.seq B'.toArray n }:=by
 obtain ⟨z,B',n,r,e⟩:=I.hok l _ hH;exact ⟨z,B',n,r,r.length,e⟩
theorem vD (h:n<=sizeLine):Builtin.List.listTooLong n=false:=by
 unfold Builtin.List.listTooLong;exact Lr 0x1
end
section
variable {X:Cx}
def yC:V->List V->Hp->VK->Prop:=fun x vs H Q=>∃l xs y,x=.ref l/\vs=[y]/\H l=some (.lst xs)/\xs.length<sizeLine/\Q .non (bX H l (.lst (xs++[y])))
theorem sA:Ko X "list.append" yC:=by
 intro pins s σ H x vs v us Q I rx rv h;obtain ⟨l,xs,y,rfl,rfl,hH,hz,q⟩:=h;cases rx;obtain ⟨u,rfl,ru⟩:=rv.one;obtain ⟨z,B',n,r,hl,e⟩:=I.lstM hH;refine call_meets F.slot_list_append ⟨_,e,rfl⟩ F.entry_list_append (F.args_list_append_2 _ _) (PySem.list_append l B'.toArray n u (by rw [List.size_toArray]; lia)) ⟨e,?_⟩;refine ⟨.non,_,I.lset (its':=B'++[u]) hH e 0x4 (r.append (.cons ru .nil)) ?_,rfl,q⟩;rw [List.length_append,List.length_singleton];lia
def yN:V->List V->Hp->VK->Prop:=fun x vs H Q=>∃l b xs zs,x=.ref l/\vs=[.ref b]/\H l=some (.lst xs)/\H b=some (.lst zs)/\xs.length+zs.length<=sizeLine/\Q .non (bX H l (.lst (xs++zs)))
theorem As:Ko X "list.extend" yN:=by
 intro pins s σ H x vs v us Q I rx rv h;obtain ⟨l,b,xs,zs,rfl,rfl,hH,hB,hz,q⟩:=h;cases rx;obtain ⟨u,rfl,ru⟩:=rv.one;cases ru;obtain ⟨z,B',n,r,hl,e⟩:=I.lstM hH;obtain ⟨z2,MY,n2,r2,hl2,e2⟩:=I.lstM hB;have Ny:B'.toArray.size+MY.toArray.size<=sizeLine:=by rw [List.size_toArray,List.size_toArray]; lia
 have NI:¬(!B'.toArray.isEmpty&&Builtin.List.listTooLong (B'.toArray.size+MY.toArray.size))=true:=by
  rw [vD Ny,Bool.and_false];exact Bool.false_ne_true
 refine call_meets F.slot_list_extend ⟨_,e,rfl⟩ F.entry_list_extend (F.args_list_extend_2 _ _)
  (AutoSeq1.list_extend_list_list_0 l B'.toArray n b MY.toArray n2 NI (by rw [List.size_toArray]; lia) 0x1) ⟨e,e2,?_⟩
 refine ⟨.non,_,I.lset (its':=B'++MY) hH e 0x4 (r.append r2) ?_,rfl,q⟩;rw [List.length_append];lia
noncomputable def JW:R2:=fun x y H Q=>∃l b xs zs,x=.ref l/\y=.ref b/\H l=some (.lst xs)/\H b=some (.lst zs)/\xs.length+zs.length<=sizeLine/\∀p,H p=none->Q (.ref p) (bX H p (.lst (xs++zs)))
theorem GS:uM X (binaryOp .Add) JW:=by
 intro pins s σ H x y v u Q I rx ry h;obtain ⟨l,b,xs,zs,rfl,rfl,hH,hB,hz,q⟩:=h;cases rx;cases ry;obtain ⟨z,B',n,r,hl,e⟩:=I.lstM hH;obtain ⟨z2,MY,n2,r2,hl2,e2⟩:=I.lstM hB;refine PySem.P.add_list e e2 ?_ (by rw [List.size_toArray,List.size_toArray]; lia);have ea:B'.toArray++MY.toArray=(B'++MY).toArray:=by simp
 rw [ea];exact ⟨.ref _,_,I.lnew (t':=s.toks) (r.append r2) (by rw [List.length_append]; lia),rfl,q _ I.fresh⟩
noncomputable def JR:R2:=fun x y H Q=>∃l k xs,x=.ref l/\y=.int k/\H l=some (.lst xs)/\-(2 ^ 63)<=k/\k<2 ^ 63/\xs.length*k.toNat<=sizeLine /\
 ∀p,H p=none->Q (.ref p) (bX H p (.lst (List.replicate k.toNat xs).flatten))
theorem Em {α:Type} (xs:List α) (k:Nat):(List.replicate k xs).flatten.length=k*xs.length:=by
 induction k with
 |zero=>simp
 |succ k ih=>rw [List.replicate_succ,List.flatten_cons,List.length_append,ih,Nat.succ_mul,Nat.add_comm]
theorem Ha:uM X (binaryOp .Mult) JR:=by
 intro pins s σ H x y v u Q I rx ry h;obtain ⟨l,k,xs,rfl,rfl,hH,h1,h2,hz,q⟩:=h;cases rx;obtain ⟨t,rfl⟩:=ry;obtain ⟨z,B',n,r,hl,e⟩:=I.lstM hH;have hlen:B'.toArray.size*k.toNat<=sizeLine:=by rw [List.size_toArray,<-hl]; exact hz
 have hcap:¬B'.toArray.size*k.toNat>(2 ^ 63-1) / 8:=by
  have:(sizeLine:Nat)<=(2 ^ 63-1) / 8:=by decide
  lia
 have hfit:¬(!Builtin.List.listFitsIndex k)=true:=by
  rw [fitsIndex_both h1 h2];exact Bool.false_ne_true
 have NI:¬Builtin.List.listTooLong (B'.toArray.size*k.toNat)=true:=by
  rw [vD hlen];exact Bool.false_ne_true
 have OR:List.foldl (fun x1 x2=>x1++x2) #[] (List.replicate (if B'.toArray.isEmpty=true then 0 else k.toNat) B'.toArray)=(List.replicate k.toNat B').flatten.toArray:=by
  have f0:∀m:Nat,List.foldl (fun x1 x2=>x1++x2) #[] (List.replicate m B'.toArray)=(List.replicate m B').flatten.toArray:=fun m=>by
   have:=rS B' m [];rw [List.nil_append] at this;exact this
  rw [f0];cases B' with
  |nil=>simp
  |cons a r'=>rw [if_neg 0x4]
 refine wpAny_binaryOp_repeat_ref (T:= "list") (U:= "int") 0x3 ⟨_,e,rfl⟩ (fun s'=>typeIs_int s' k t) noFill_list_mul F.fills_int_mul F.slot_int_rmul repeat_list F.slot_int_index.lookup
  (call_meets F.slot_int_rmul (typeIs_int s k t) F.entry_int_rmul (F.args_int_rmul_2 _ _) (int___rmul___int_list k t l B'.toArray n)
   ⟨e,rfl,⟨_,e,rfl⟩,call_meets F.slot_list_mul ⟨_,e,rfl⟩ F.entry_list_mul (F.args_list_mul_2 _ _) (AutoListH.list___mul___list_int_3 l B'.toArray n k t hfit hcap NI) ⟨e,?_⟩⟩)
 rw [OR];exact ⟨.ref _,_,I.lnew (t':=s.toks) (r.rep k.toNat) (by rw [Em,Nat.mul_comm]; exact hz),rfl,q _ I.fresh⟩
end
section
variable {prog:Program} {w:World} {A:Around} {E:Value->Shared->Prop} {s:Shared}
set_option maxRecDepth 100000 in
end
section
variable {X:Cx}
end
end L2
namespace Att
open PySem PySem.W PySem.Calls PyProof.Rows
theorem og {P:Params} {h:Heap}:∀(ns:List Int) (vs:List Value),WellAll P h vs (ns.map WData.int)->IntsAre vs ns:=by
 intro ns
 induction ns with
 |nil=>
  intro vs w;rw [List.map_nil] at w;cases w;exact .nil
 |cons n ns ih=>
  intro vs w;rw [List.map_cons] at w;cases w with
  |cons a b=>
   cases a;exact .cons _ _ (ih _ b)
theorem zq {l:OpenLaw} {n:Nat} (hn:l.most=some n) {P:Params} {h:Heap} {args:List WData} {vals:List Value}
  (MU:l.row.toRowW.claim.pre args=true) (hwl:WellAll P h vals args) :
  ∃a vs ns,vals=[Value.ref a]/\args=[WData.list (ns.map WData.int)]/\h.get? a=some { cls:=.type "list",data:=.seq vs.toArray }/\IntsAre vs ns/\ns.length<=n:=by
 have hsh:WShape.hasAll [] args [.list .int]=true:=(pre_splitW MU).1;have hc:l.pre.holds [] { args:=args }=true:=(pre_splitW MU).2;obtain ⟨d,r,rfl,h1,h2⟩:=hasAllW_cons hsh;obtain rfl:=hasAllW_nil h2;obtain ⟨xs,rfl,h3⟩:=hasW_list h1;obtain ⟨ns,rfl⟩:=items_int h3;have hlen:ns.length<=n:=by
  unfold OpenLaw.pre at hc;have h4:(WTm.not (.lt (.lit (.int (n:Int))) (.len (.arg 0)))).holds [] { args:=[.list (ns.map .int)] }=true:=by
   have h4:=(holds_andW hc).1;rw [hn] at h4;exact h4
  have h5:=condW_of h4 (w_not (w_lt w_lit (w_len_list (w_arg rfl))));rw [List.length_map] at h5;refine Nat.le_of_not_lt fun q=>?_;have q':(n:Int)<((ns.length:Nat):Int):=by lia
  first
   |(rw [Ls q'] at h5; exact absurd h5 0x3)
   |(simp at h5; lia)
 cases hwl with
 |cons w1 w2=>
  cases w2;cases w1 with
  |list ho hall=>exact ⟨_,_,ns,rfl,rfl,ho,og ns _ hall,hlen⟩
theorem Af (l:OpenLaw) (args:List WData):l.row.toRowW.claim.post args (.bool true) args=true:=
 postW_of (r:=l.row.toRowW) (X:=(true==true))
  (show WShape.has [] (.bool true) .bool=true by first|rfl|decide|simp [WShape.has,WShape.arms,WShape.armsAll])
  (show (WTm.eq .res (.lit (.bool true))).value [] { args:=args,res:=some (.bool true),after:=args }=some (.bool (true==true)) from w_eq_bool (w_res rfl) w_lit) rfl
theorem attach_call {l:OpenLaw} {n:Nat} {q:Program} {loose:List Str} {XP:(Str->Option Value)->Heap->Prop} {YP:World->Heap->Prop} {d:DefRec}
  (hn:l.most=some n) (hdf:d.params.defaults=[])
  (call:∀(w:World) (s₀ s₁:Shared) (mg mb:Str->Option Value) (fa:Addr) (o:Obj) (pm cd doc:Value) (a:Addr) (vs:List Value) (ns:List Int),
   Ground q loose [] XP w s₀ mg mb s₁.heap->YP w s₁.heap ->
   s₁.heap.get? fa=some o->o.data=.func (docDef d.name d.params d.body d.scope pm cd doc)->s₁.heap.CodeRec cd d.name->mg d.name=some (.ref fa) ->
   s₁.heap.get? a=some { cls:=.type "list",data:=.seq vs.toArray }->IntsAre vs ns->ns.length<=n->s₁.gens=#[] ->
   codeAny (model l.prog w) callerA (.call (.ref fa) ⟨[.ref a],[]⟩) (fun r s'=>r=.ok (.ret (.bool true))/\OldK s₁.heap s'.heap/\s'.os=s₁.os/\AllBare s'.gens) s₁) :
  WalkO q loose XP YP l.row.toRowW d [] (fun f vs=>PySem.call f vs):=by
 intro w s₀ s₁ mg mb G Y fa o pm cd doc dV kV ho hd M' hD hmg hg args vals as MU hlay hrd hwl Ni;obtain rfl:dV=.none:=Dflts.none hD hdf;obtain rfl:kV=.none:=Dflts.noKw hD;obtain ⟨a,vs,ns,rfl,rfl,Ow,hints,hlen⟩:=zq hn MU hwl;refine enter_call (codeAny_mono (call w s₀ s₁ mg mb fa o pm cd doc a vs ns G Y ho (fd_plain hd) M' hmg Ow hints hlen hg) fun r s' hq=>?_);obtain ⟨rfl,h2,h3,h4⟩:=hq;exact ⟨.inl ⟨.bool true,.bool true,[],rfl,fun _=>rfl,.bool true,Af l _,fun _=>⟨List.Pairwise.nil,fun _ hm=>(nomatch hm)⟩⟩,h2,h3,h4⟩
section
variable {prog:Program} {w:World} {A:Around} {E:Value->Shared->Prop} {s:Shared} {K:Frag}
end
end Att
namespace L2
open PySem PySem.Spec PyProof.Rows
theorem iA:∀{vs:List Value} {ns:List Int},IntsAre vs ns->aX (ns.map V.int) vs
 |_,_,.nil=>.nil
 |_,_,.cons n t h=>.cons ⟨t,rfl⟩ (iA h)
def GQ (H:Hp):Prop:=∀b,H b=none\/∃o xs,H b=some (.frz o (.lst xs))
variable {k:Nat} {fd:FuncData} {x:Str}
theorem BV {P:Program} {w:World} {K:Lb} {mg mb:Str->Option Value} {CX:Ai} {fa a:Addr} {sp:Sp} {s₁:Shared} {vs:List Value} {ns:List Int}
  (KX:K.In s₁.heap) (hns:s₁.heap.Ns mainGlobals mg) (hb:s₁.heap.Ns builtinsNs mb) (hbb:∀x:Str,x ≠ "__name__" -> mb x=bootBuiltins x) (hlim:s₁.heap.NoLimit) (hg:s₁.gens=#[])
  (ha:s₁.heap.get? a=some { cls:=.type "list",data:=.seq vs.toArray }) (hi:IntsAre vs ns) (hl:ns.length<=sizeLine) (hr:Room k callerA)
  (F:∀base:Heap,K.In base->base.Ns mainGlobals mg->FnOk P w K mg base CX k fa fd [x] sp) (hbind:∀(s:Shared) (u:Value),BindsTo s fd ⟨[u],[]⟩ [(x,u)])
  (MK:∀H:Hp,GQ H->eN K H a (ns.map V.int)->sp [.ref a] H (fun v _=>v=.bl true) fun _ _ _=>False)
  (hCX:∀H e s',CX [] H s₁ (fun _ _ _=>False) e s'->False) :
  codeAny (model P w) callerA (.call (.ref fa) ⟨[.ref a],[]⟩) (fun r s'=>r=.ok (.ret (.bool true))/\OldK s₁.heap s'.heap/\s'.os=s₁.os/\AllBare s'.gens) s₁:=by
 have rv:=iA hi;have lenV:=hi.length;have core:∀H:Hp,GQ H->eN K H a (ns.map V.int)->k6 P w H s₁.heap->(∀b,H b≠none->b=a)->(H a≠none->K.lookup a=none) ->
   codeAny (model P w) callerA (.call (.ref fa) ⟨[.ref a],[]⟩) (fun r s'=>r=.ok (.ret (.bool true))/\OldK s₁.heap s'.heap/\s'.os=s₁.os/\AllBare s'.gens) s₁:=by
  intro H hO hS hok hA hK;have Nl:∀{b:Addr} {o:Obj},s₁.heap.get? b=some o->H b=none->(uw s₁.heap H).get? b=some o:=fun e n=>Cw e n;have noA:∀{b:Addr} {o:Obj} {es:Array DictEntry} {ep:Nat},s₁.heap.get? b=some o->o.data=.dict es ep->H b=none:=fun {b o es ep} e d=>by
   cases q:H b with
   |none=>rfl
   |some u=>
    have e':b=a:=hA b (by rw [q]; simp);subst e';rw [ha] at e; cases e
    have d':Data.seq vs.toArray _=Data.dict es ep:=d;cases d'
  have nsK:∀{b:Addr} {m:Str->Option Value},s₁.heap.Ns b m->(uw s₁.heap H).Ns b m:=fun {b m} ⟨o,es,ep,e,d,r⟩=>⟨o,es,ep,Nl e (noA e d),d,r⟩;have hKb:K.In (uw s₁.heap H):=fun b o e=>Nl (KX b o e) (by
   cases q:H b with
   |none=>rfl
   |some u=>
    have e':b=a:=hA b (by rw [q]; simp);subst e';rw [hK (by rw [q]; simp)] at e; cases e)
  have hM:Mod K mg (uw s₁.heap H):=⟨hKb,nsK hns,⟨mb,nsK hb,hbb⟩,let ⟨mc,h1,h2⟩:=hlim; ⟨mc,nsK h1,h2⟩⟩;have e0:Env0 P w K mg (uw s₁.heap H) callerA [] s₁ H:=⟨rfl,hM,fun b o e=>E4 e,Lx (zR _ _),trivial,fun b hb=>absurd (show b∈([]:List Addr) from hb) 0x4,hok,.of_eq hg⟩;refine codeAny_mono ((F _ hKb (nsK hns)).run callerA [] s₁ H ⟨[.ref a],[]⟩ [.ref a] [.ref a] _ _ hr e0 (hbind s₁ (.ref a)) (.cons rfl .nil) (MK H hO hS)) fun r s' h=>?_;cases r with
  |error e=>exact (hCX H e s' h).elim
  |ok fl=>
   cases fl with
   |next=>exact False.elim h
   |brk=>exact False.elim h
   |cont=>exact False.elim h
   |ret u=>
    obtain ⟨v,H',os,bare,un,hok',r',q⟩:=h;have q':v=.bl true:=q;subst q';obtain rfl:u=Value.bool true:=r';refine ⟨rfl,OldK.of_keep fun b o e=>?_,os,bare⟩;cases q:H b with
    |none=>exact un.keep b o e q (by intro z; exact absurd (show b∈([]:List Addr) from z) 0x4) 0x4
    |some u=>
     rcases hO b with z|⟨ob,xs,z⟩
     ·rw [q] at z; cases z
     ·have z2:=un.frzs b ob _ z;obtain ⟨e1,_⟩:=hok b _ z;obtain ⟨e2,_⟩:=hok' b _ z2;rw [e] at e1; cases e1
      exact e2
 cases hk:K.lookup a with
 |some o=>
  have e:=KX a o hk;rw [ha] at e;cases e;refine core (fun _=>none) (fun _=>.inl rfl) (.inr ⟨_,vs.toArray,_,hk,rfl,rfl,rfl,by rw [List.size_toArray,lenV]; exact hl,by simpa using rv⟩) (fun b u z=>by have z':(none:Option HO)=some u:=z; cases z') (fun b z=>absurd rfl z) fun z=>absurd rfl z
 |none=>
  refine core (fun b=>if b=a then some (.frz { cls:=.type "list",data:=.seq vs.toArray } (.lst (ns.map V.int))) else none) (fun b=>?_) (.inl (.inr ⟨{ cls:=.type "list",data:=.seq vs.toArray },if_pos rfl⟩)) (fun b u z=>?_) (fun b z=>?_) fun _=>hk
  ·by_cases hb:b=a
   ·exact .inr ⟨_,_,if_pos hb⟩
   ·exact .inl (if_neg hb)
  ·by_cases hb:b=a
   ·have z':=(if_pos hb).symm.trans z;cases z';subst hb;exact ⟨ha,by rw [List.length_map]; exact hl,vs,_,rv,ha⟩
   ·have z':=(if_neg hb).symm.trans z;cases z'
  ·by_cases hb:b=a
   ·exact hb
   ·exact absurd (if_neg hb) z
theorem walk_of {l:PySem.W.OpenLaw} {n:Nat} {q:Program} {loose:List Str} {XP:(Str->Option Value)->Heap->Prop} {YP:World->Heap->Prop} {d:DefRec} {K:Params->Lb} {CX:World->Ai} {sp:World->Sp} 
  (hn:l.most=some n) (hn2:n<=sizeLine) (hdf:d.params.defaults=[]) (hr:Room k callerA)
  (hY:∀(w:World) (h:Heap),YP w h->(K w.params).In h)
  (F:∀(w:World) (mg:Str->Option Value) (fa:Addr) (h:Heap),(K w.params).In h->h.Ns mainGlobals mg->mg d.name=some (.ref fa) ->
   ∃fd:FuncData,(∀(s:Shared) (u:Value),BindsTo s fd ⟨[u],[]⟩ [(x,u)]) /\
    ∀base:Heap,(K w.params).In base->base.Ns mainGlobals mg->FnOk l.prog w (K w.params) mg base (CX w) k fa fd [x] (sp w))
  (MK:∀(w:World) (H:Hp) (a:Addr) (ns:List Int),ns.length<=n->GQ H->eN (K w.params) H a (ns.map V.int)->sp w [.ref a] H (fun v _=>v=.bl true) fun _ _ _=>False)
  (hCX:∀(w:World) (H:Hp) (s:Shared) (e:Value) (s':Shared),CX w [] H s (fun _ _ _=>False) e s'->False) :
  PySem.W.WalkO q loose XP YP l.row.toRowW d [] (fun f vs=>PySem.call f vs):=by
 refine Att.attach_call hn hdf fun w s₀ s₁ mg mb fa o pm cd doc a vs ns G Y ho hd M' hmg Ow hints hlen hg=>?_;have KX:=hY w _ Y;obtain ⟨fd,hb,hF⟩:=F w mg fa _ KX G.T.g hmg;exact BV KX G.T.g G.T.b G.T.builtins G.T.nolimit hg Ow hints (Lp hlen hn2) hr hF hb (fun H hO hS=>MK w H a ns hlen hO hS) fun H e s'=>hCX w H s₁ e s'
noncomputable def oY (s:Stmt) (j:Nat):Stmt:=match s with
 |.ClassDef _ _ _ body _ _ _ _ _ _ _=>body.getD j (.Pass ⟨0,0,0,0⟩)
 |_=>.Pass ⟨0,0,0,0⟩
noncomputable def eY (s:Stmt):Arguments:=match s with
 |.FunctionDef _ a _ _ _ _ _ _ _ _=>a
 |_=>{ posonlyargs:=[],args:=[],vararg:=none,kwonlyargs:=[],kw_defaults:=[],kwarg:=none,defaults:=[] }
noncomputable def dD (s:Stmt):List Stmt:=match s with
 |.FunctionDef _ _ b _ _ _ _ _ _ _=>b
 |_=>[]
noncomputable def ak (s:Stmt):Scope:=match s with
 |.FunctionDef _ _ _ _ _ _ sc _ _ _=>sc
 |_=>{ kind:=.function,names:=[],isGenerator:=false,isCoroutine:=false }
abbrev uH:Ai:=fun _ _ _ _ _ _=>False
abbrev E0:XK:=fun _ _ _=>False
structure Fun (K:Lb) (x qual:Str) (st:Stmt) (f:Addr) (fd:FuncData):Prop where
 ex:∃(oc:Value) (od:Option Addr) (kV doc pm:Value) (an:Option Addr) (LD ct:Value) (NA:Array (Option Value)),
  fd=PySem.W.fnOf x qual (eY st) (dD st) (ak st) .none kV doc pm an LD ct/\K.lookup f=some ⟨oc,od,.func fd,NA⟩/\PySem.W.codeIn K LD qual=true
 kp:PySem.W.keepIn K (.ref f)=true
section
variable {P:Program} {w:World} {K:Lb} {mg:Str->Option Value} {base:Heap}
variable {qual:Str} {st:Stmt} {f:Addr}
theorem Fun.ok {N ps:List Str} {sp:Sp} (F:Fun K x qual st f fd) (S:FnScope N ps (ak st)) (len:∀vs H Q E,sp vs H Q E->vs.length=ps.length)
  (NQ:∀(LD:Value) (A:Around) (outer:List Env) (s:Shared) (H:Hp) (vs:List V) (Q:VK) (E:XK),Room k (A.deeper (envOfC qual (ak st) s.heap.objs.size f LD))->sp vs H Q E ->
   ∃t,qQ (fj uH P w K mg base N qual (ak st) f LD A outer s H E).nox (dD st) t/\t { nx:=fun _ H'=>Q .non H',rt:=Q } (start N vs) H):FnOk P w K mg base uH (k+1) f fd ps sp:=by
 obtain ⟨oc,od,kV,doc,pm,an,LD,ct,NA,rfl,lk,M'⟩:=F.ex;refine C2 lk M' S len fun A outer s H vs Q E hr MK=>?_;obtain ⟨t,h,q⟩:=NQ LD A outer s H vs Q E hr MK;exact ⟨t,h.nox,q⟩
theorem Fun.binds {ps:List Str} (F:Fun K x qual st f fd)
  (h:∀(kV doc pm:Value) (an:Option Addr) (LD ct:Value) (us:List Value),us.length=ps.length->bindArgs (PySem.W.fnOf x qual (eY st) (dD st) (ak st) .none kV doc pm an LD ct) ⟨us,[]⟩=pure (ps.zip us)):gi K fd ps []:=by
 obtain ⟨oc,od,kV,doc,pm,an,LD,ct,NA,rfl,lk,M'⟩:=F.ex;exact .all (h kV doc pm an LD ct)
theorem lM {oc:Value} {od an:Option Addr} {NA:Array (Option Value)} {kV doc pm LD ct:Value} (l:K.lookup f=some ⟨oc,od,.func (PySem.W.fnOf x qual (eY st) (dD st) (ak st) .none kV doc pm an LD ct),NA⟩)
  (c:PySem.W.codeIn K LD qual=true) (k:PySem.W.keepIn K (.ref f)=true):Fun K x qual st f (PySem.W.fnOf x qual (eY st) (dD st) (ak st) .none kV doc pm an LD ct):=⟨⟨oc,od,kV,doc,pm,an,LD,ct,NA,rfl,l,c⟩,k⟩
end
section
variable {X:Cx}
theorem pv (i:Nat) {pos:Pos} (hN:X.N[i]?=some x:=by rfl) (hv:Jt X.env.scope x:=by first|exact Or.inl rfl|exact Or.inr (Or.inl rfl)|exact Or.inr (Or.inr rfl)) (hd:(x==("__debug__" : Str))=false:=by decide)
  (M':(x==("__classdict__" : Str))=false:=by decide):PE X (.Name x pos) (ph i):=HC hN hv hd M'
end
theorem Ac {A B:Prop} (h:B):if false=true then A else B:=by
 rw [if_neg Bool.false_ne_true];exact h
theorem z5 {A B:Prop} (h:A):if true=true then A else B:=by
 rw [if_pos rfl];exact h
def aF (H H':Hp):Prop:=∀b o,H b=some o->H' b=some o
theorem aF.refl (H:Hp):aF H H:=fun _ _ h=>h
theorem aF.trans {H H1 H2:Hp} (a:aF H H1) (b:aF H1 H2):aF H H2:=fun c o h=>b c o (a c o h)
theorem aF.free {H H':Hp} (e:aF H H') {l:Addr} (h:H' l=Option.none):H l=Option.none:=by
 cases q:H l with
 |none=>rfl
 |some o=>
  rw [e l o q] at h;cases h
theorem aF.seq {K:Lb} {H H':Hp} {a:Addr} {xs:List V} (e:aF H H') (h:eN K H a xs):eN K H' a xs:=by
 rcases h with (h|⟨o,h⟩)|h
 ·exact .inl (.inl (e _ _ h))
 ·exact .inl (.inr ⟨o,e _ _ h⟩)
 ·exact .inr h
end L2
set_option maxHeartbeats 4000000
namespace L2
open PySem PySem.Spec PyProof.Rows
noncomputable def gh (cells:List (Str×Addr)):List (Str×NameKind)->List (Str×Addr)->List (Str×Addr)
 |[],acc=>acc
 |(n,k)::r,acc=>if (k==NameKind.free)=true then (match cells.lookup n with|some c=>gh cells r ((n,c)::acc)|none=>gh cells r acc) else gh cells r acc
theorem pO {env:Env}:∀(names:List (Str×NameKind)) (acc:List (Str×Addr)),(∀y∈names,y.2=.free->∃c,env.cells.lookup y.1=some c) ->
  (forIn names acc fun (x:Str×NameKind) (r:List (Str×Addr))=>(do
   if (x.2==NameKind.free)=true then do
    let c <-cellOf env x.1
    pure (ForInStep.yield ((x.1,c)::r))
   else pure (ForInStep.yield r):Sem (ForInStep (List (Str×Addr)))))=pure (gh env.cells names acc)
 |[],acc,_=>rfl
 |(n,k)::r,acc,h=>by
  rw [List.forIn_cons];by_cases hk:k=.free
  ·subst hk;obtain ⟨c,hc⟩:=h (n,.free) KU rfl;have e1:cellOf env n=pure c:=by unfold cellOf; rw [show env.cells.lookup n=some c from hc]
   simp only [beq_self_eq_true,if_true,e1,pure_bind,gh];rw [show env.cells.lookup n=some c from hc];exact pO r _ fun y hy=>h y (KS _ hy)
  ·have hb:(k==NameKind.free)=false:=by simpa using hk
   simp only [hb,Bool.false_eq_true,if_false,pure_bind,gh];exact pO r _ fun y hy=>h y (KS _ hy)
theorem yv {scope:Scope} {env:Env} (h:∀y∈scope.names,y.2=.free->∃c,env.cells.lookup y.1=some c):closureFor scope env=pure (gh env.cells scope.names []):=by
 have e:=pO (env:=env) scope.names [] h;unfold closureFor;rw [<-bind_pure (pure (gh env.cells scope.names []):Sem (List (Str×Addr))),<-e]
theorem ik {h:Heap} {b:Addr} {n:Nat} {o:Obj} (h1:h.get? b=some o) (h2:h.objs.size<=n):b≠n:=fun z=>absurd (K5 h1) (by rw [z]; exact Nat.not_lt.mpr h2)
theorem dZ {a:Nat} {b:Addr} {n:Nat} (h1:b<a) (h2:a<=n):b≠n:=fun z=>absurd h1 (by rw [z]; exact Nat.not_lt.mpr h2)
theorem cw {cells:List (Str×Addr)} {x:Str} {c:Addr}:∀{names:List (Str×NameKind)} {acc:List (Str×Addr)},(∀d,acc.lookup x=some d->cells.lookup x=some d)->(gh cells names acc).lookup x=some c->cells.lookup x=some c
 |[],acc,ha,h=>ha c h
 |(n,k)::r,acc,ha,h=>by
  unfold gh at h;split at h
  ·split at h
   ·rename_i d hd;refine cw (names:=r) (fun e he=>?_) h;by_cases hx:x=n
    ·subst hx;simp only [List.lookup_cons,beq_self_eq_true] at he;rw [hd]; exact he
    ·have hb:(x==n)=false:=by simpa using hx
     simp only [List.lookup_cons,hb] at he;exact ha e he
   ·exact cw (names:=r) ha h
  ·exact cw (names:=r) ha h
theorem kr {cells:List (Str×Addr)} {x:Str}:∀{names:List (Str×NameKind)} {acc:List (Str×Addr)},(∃d,acc.lookup x=some d)->∃c,(gh cells names acc).lookup x=some c
 |[],acc,h=>h
 |(n,k)::r,acc,h=>by
  unfold gh;split
  ·split
   ·rename_i d hd;refine kr (names:=r) ?_;by_cases hx:x=n
    ·subst hx; exact ⟨d,by simp [List.lookup_cons]⟩
    ·have hb:(x==n)=false:=by simpa using hx
     obtain ⟨e,he⟩:=h;exact ⟨e,by simpa [List.lookup_cons,hb] using he⟩
   ·exact kr (names:=r) h
  ·exact kr (names:=r) h
theorem kK {cells:List (Str×Addr)} {x:Str} {c:Addr} (hc:cells.lookup x=some c):∀{names:List (Str×NameKind)} {acc:List (Str×Addr)},(x,NameKind.free)∈names->∃d,(gh cells names acc).lookup x=some d
 |[],_,h=>nomatch h
 |(n,k)::r,acc,h=>by
  rcases Lc.mp h with e|h
  ·cases e;unfold gh;rw [if_pos 0x4];rw [hc];exact kr ⟨c,by simp [List.lookup_cons]⟩
  ·unfold gh;split
   ·split <;> exact kK hc (names:=r) h
   ·exact kK hc (names:=r) h
theorem gk {env:Env} {x:Str}:∀{names:List (Str×NameKind)} {k:NameKind},
  (names.map fun (n,k)=>if (k==NameKind.free&&env.scope.kind==.function&&env.kindOf n==some .cell) then (n,NameKind.cell) else (n,k)).lookup x=some k ->
  names.lookup x=some k\/(k=.cell/\names.lookup x=some .free)
 |[],k,h=>by simp at h
 |(n,k0)::r,k,h=>by
  have ih:=@gk env x r k;rw [List.map_cons] at h;by_cases hx:x=n
  ·subst hx;by_cases hc:(k0==NameKind.free&&env.scope.kind==.function&&env.kindOf x==some .cell)=true
   ·simp only [hc,if_true,List.lookup_cons,beq_self_eq_true] at h;have h0:k0=.free:=by
     simp only [Bool.and_eq_true,beq_iff_eq] at hc;exact hc.1.1
    subst h0;cases h;exact .inr ⟨rfl,by simp [List.lookup_cons]⟩
   ·have MD:(k0==NameKind.free&&env.scope.kind==.function&&env.kindOf x==some .cell)=false:=by simpa using hc
    simp only [MD,Bool.false_eq_true,if_false,List.lookup_cons,beq_self_eq_true] at h;cases h;exact .inl (by simp [List.lookup_cons])
  ·have hb:(x==n)=false:=by simpa using hx
   have e1:∀(c:Bool),List.lookup x ((if c=true then (n,NameKind.cell) else (n,k0))::(r.map fun (n,k)=>if (k==NameKind.free&&env.scope.kind==.function&&env.kindOf n==some .cell) then (n,NameKind.cell) else (n,k)))=List.lookup x (r.map fun (n,k)=>if (k==NameKind.free&&env.scope.kind==.function&&env.kindOf n==some .cell) then (n,NameKind.cell) else (n,k)):=fun c=>by
    cases c <;> simp [List.lookup_cons,hb]
   have h':=(e1 _).symm.trans h;rcases ih h' with q|⟨q1,q2⟩
   ·exact .inl (by simpa [List.lookup_cons,hb] using q)
   ·exact .inr ⟨q1,by simpa [List.lookup_cons,hb] using q2⟩
theorem fV {x:Str} {k:NameKind}:∀{names:List (Str×NameKind)},names.lookup x=some k->(x,k)∈names
 |[],h=>by simp at h
 |(n,k0)::r,h=>by
  by_cases hx:x=n
  ·subst hx;simp only [List.lookup_cons,beq_self_eq_true] at h;cases h; exact KU
  ·have hb:(x==n)=false:=by simpa using hx
   simp only [List.lookup_cons,hb] at h;exact KS _ (fV h)
noncomputable def jY (k:Nat) (js:List Nat) (σ:St):St:=List.replicate k none++js.map fun j=>(σ[j]?).join
noncomputable def aQ (X:Cx) (N':List Str) (scope:Scope) (C:Addr) (s₂:Shared) (H₂:Hp) (fp:List Addr):Cx where
 prog:=X.prog
 w:=X.w
 K:=X.K
 mg:=X.mg
 base:=X.base
 A:=X.A
 N:=N'
 s₀:=s₂
 H₀:=H₂
 env:=compEnvC scope (gh X.env.cells scope.names []) C X.env
 outer:=X.stack
 stack:=X.stack
 ex:=fp
 fn:=fun _=>false
 calm:=X.calm
 pn:=[]
 xe:=fun _ _=>False
structure CompFit (X:Cx) (k:Nat) (js:List Nat) (N':List Str) (scope:Scope):Prop where
 kind:scope.kind=.function
 nocell:∀y∈scope.names,y.2≠.cell
 loc:∀y∈scope.names,y.2=.local->scope.names.lookup y.1=some .local
 free:∀y∈scope.names,y.2=.free->X.env.kindOf y.1=some .cell\/X.env.kindOf y.1=some .free
 len:N'.length=k+js.length
 at':∀(i:Nat) (x:Str),N'[i]?=some x->k<=i->∃j,js[i-k]?=some j/\X.N[j]?=some x/\(X.env.kindOf x=some .cell\/X.env.kindOf x=some .free)/\scope.names.lookup x=some .free
section
variable {X:Cx} {pins:List (Addr×Obj)} {σ:St} {H:Hp} {s:Shared} {k:Nat} {js:List Nat} {N':List Str} {scope:Scope}
theorem EZ {C:Addr} {fp:List Addr} (I:Inv X pins σ H s) (S:CompFit X k js N' scope) (hC:s.heap.objs.size<=C) (hf:∀b∈fp,mD X pins H b/\b<s.heap.objs.size):(aQ X N' scope C s H fp).Ok where
 mod:=I.ok.mod
 kind:=S.kind
 glob:=I.ok.glob
 blt:=I.ok.blt
 above:=hC
 inj:=fun x y c h1 h2=>I.ok.inj x y c (cw (fun d hd=>by simp at hd) h1) (cw (fun d hd=>by simp at hd) h2)
 has:=fun x hx=>by
  have hx':(relabel scope X.env).names.lookup x=some .cell\/(relabel scope X.env).names.lookup x=some .free:=hx;have Mc:scope.names.lookup x=some .free:=by
   rcases hx' with h|h
   ·rcases gk h with q|⟨_,q⟩
    ·exact absurd rfl (S.nocell _ (fV q))
    ·exact q
   ·rcases gk h with q|⟨e,_⟩
    ·exact q
    ·cases e
  obtain ⟨c,hc⟩:=I.ok.has x (S.free _ (fV Mc) rfl);exact kK hc (fV Mc)
 cab:=fun x c h _=>nomatch h
 hd:=I.ok.hd
 frames:=I.ok.frames
 stk:=.inl rfl
 exf:=fun b hb=>⟨fun e=>absurd (hf b hb).2 (by have e':b=C:=e; rw [e']; exact Nat.not_lt.mpr hC),fun x c h=>(hf b hb).1.2.2.2.2.1 x c (cw (fun d hd=>by simp at hd) h)⟩
 bs:=I.bs
 bsz:=Lp I.ok.bsz I.sz
 noex:=fun b o e hb=>by
  rcases (hf b hb).1.2.2.2.1 with z|z
  ·exact I.ok.noex b o e z
  ·exact absurd (Lq (K5 e) (Lp I.ok.bsz z)) (Nat.lt_irrefl _)
 exfs:=fun b hb z=>by
  rcases Lc.mp (I.stkSub b z) with e|e
  ·exact (hf b hb).1.2.1 e
  ·exact (hf b hb).1.2.2.1 e
 funs:=I.stack
 frf:=I.stkFree
theorem pz {C:Addr} {fp:List Addr} {h₁:Heap} {tk:Nat} {m:Str->Option Value} (I:Inv X pins σ H s) (S:CompFit X k js N' scope) (hC:s.heap.objs.size<=C) (hf:∀b∈fp,mD X pins H b/\b<s.heap.objs.size)
  (old:∀b o,s.heap.get? b=some o->h₁.get? b=some o) (hn:h₁.Ns C m):Inv (aQ X N' scope C s H fp) [] (jY k js σ) H { s with heap:=h₁,toks:=tk }:=by
 refine ⟨EZ I S hC hf,rfl,I.bare,Un.kept old,⟨m,hn,fun i x v h1 h2 h3=>?_⟩,fun x c h=>?_,I.hok.fresh hC,fun x c h=>I.freeC x c (cw (fun d hd=>by simp at hd) h),fun p hp=>absurd (show p∈([]:List (Addr×Obj)) from hp) 0x4,I.hok.kept old,?_⟩
 ·have hi:k<=i:=by
   by_cases hi:k<=i
   ·exact hi
   ·unfold jY at h2;rw [List.getElem?_append_left (by simp; lia),List.getElem?_replicate] at h2;split at h2 <;> cases h2
  obtain ⟨j,hj,hN,hk,Mc⟩:=S.at' i x h1 hi;have hσ:σ[j]?=some (some v):=by
   unfold jY at h2;rw [List.getElem?_append_right (by simpa using hi),List.length_replicate,List.getElem?_map,hj] at h2;simp only [Option.map_some] at h2;have NN:(σ[j]?).join=some v:=Lw h2;cases e:σ[j]? with
   |none=>rw [e] at NN; cases NN
   |some z=>rw [e] at NN; simp only [Option.join] at NN; rw [<-NN]; rfl
  obtain ⟨m0,hn0,hl⟩:=I.loc;have hv:Jt X.env.scope x:=by
   rcases hk with h|h
   ·exact .inr (.inl h)
   ·exact .inr (.inr h)
  obtain ⟨u,r,l⟩:=hl j x v hN hσ hv;refine ⟨u,r,?_⟩;rcases l with ⟨hk',_⟩|⟨_,c,hc,MC⟩
  ·rcases hk with h|h <;> (rw [hk'] at h; cases h)
  ·obtain ⟨d,hd⟩:=kK (names:=scope.names) (acc:=[]) hc (fV Mc);have Oy:d=c:=Lw ((cw (fun d hd=>by simp at hd) hd).symm.trans hc);subst Oy;refine .inr ⟨?_,d,hd,MC.keeps old⟩;have h3':(relabel scope X.env).names.lookup x=some .local\/(relabel scope X.env).names.lookup x=some .cell\/(relabel scope X.env).names.lookup x=some .free:=h3;rcases h3' with h|h|h
   ·rcases gk h with q|⟨e,_⟩
    ·rw [Mc] at q; cases q
    ·cases e
   ·exact .inl h
   ·exact .inr h
 ·obtain ⟨v,hv⟩:=I.cell x c (cw (fun d hd=>by simp at hd) h);exact ⟨v,hv.keeps old⟩
 ·unfold jY;show _=N'.length;rw [List.length_append,List.length_replicate,List.length_map,S.len]
end
section
variable {prog:Program} {w:World} {A:Around} {R:Result->Shared->Prop} {s:Shared}
def FW:Value->Shared->Prop:=fun _ _=>False
theorem pA {elt target iter:Expr} {ifs:List Expr} {scope:Scope} {pos:Pos} {it acc:Value} {env:Env} (I:Nat->Shared->Prop)
  (turn:∀n s,I n s->wpAny (model prog w) A (pyNext it) (fun r s₁=>match r with
   |none=>R (.ok .next) s₁
   |some v=>wpAny (model prog w) A (letOwnedTupleGo target it v) (fun _ s₁'=>wpAny (model prog w) A (assign target env v) (fun _ s₂=>
     wpAny (model prog w) A (forIn ifs true fun c r=>if r=true then (do let ok <-isTrue c env (eval c env); pure (ForInStep.yield ok)) else pure (ForInStep.yield r)) (fun ok s₃=>
      if ok=true then wpAny (model prog w) A (eval elt env) (fun x s₄=>wpAny (model prog w) A (call (.builtin "list.append") [acc,x]) (fun _ s₅=>∃m,m<n/\I m s₅) FW s₄) FW s₃
      else ∃m,m<n/\I m s₃) FW s₂) FW s₁') FW s₁) FW s)
  (n:Nat) (h:I n s):codeAny (model prog w) A (.compLoop (.ListComp elt [⟨target,iter,ifs,0⟩] scope pos) 0 it acc env) R s:=by
 refine codeAny_loop rfl I (fun n s hI=>?_) n h;refine wpAny_noted (m:=compTurn (.ListComp elt [⟨target,iter,ifs,0⟩] scope pos) 0 it acc env) ?_;rw [compTurn_list];refine K3 (wpAny_standAt (K3 (wpAny_mono (turn n s hI) (fun r s₁ h₁=>?_) fun _ _ h'=>h'.elim)));cases r with
 |none=>exact K4 h₁
 |some v=>
  refine K3 (wpAny_mono h₁ (fun _ s₁' h₁'=>?_) fun _ _ h'=>h'.elim);refine K3 (wpAny_mono h₁' (fun _ s₂ h₂=>K3 (wpAny_mono h₂ (fun ok s₃ h₃=>?_) fun _ _ h'=>h'.elim)) fun _ _ h'=>h'.elim);cases ok with
  |false=>exact K4 ⟨rfl,h₃⟩
  |true=>
   refine K3 (K3 (wpAny_mono h₃ (fun x s₄ h₄=>?_) fun _ _ h'=>h'.elim));exact K3 (wpAny_mono h₄ (fun _ s₅ h₅=>K4 (K4 ⟨rfl,h₅⟩)) fun _ _ h'=>h'.elim)
end
def PF (X:Cx) (ifs:List Expr) (t:TT):Prop:=
 ∀(pins:List (Addr×Obj)) (s:Shared) (σ:St) (H:Hp) (Q:Bool->Hp->Prop),Inv X pins σ H s->t σ H Q ->
  wpAny (model X.prog X.w) X.A (forIn ifs true fun c r=>if r=true then (do let ok <-isTrue c X.env (eval c X.env); pure (ForInStep.yield ok)) else pure (ForInStep.yield r)) (TP X pins σ Q) X.xe s
def Kg:TT:=fun _ H Q=>Q true H
theorem FZ {X:Cx}:PF X [] Kg:=fun _ _ _ H _ I h=>wpAny_tests_nil ⟨H,I,h⟩
theorem jf {X:Cx} {c:Expr} {t:TT} (h:PT X c t):PF X [c] t:=fun pins s σ H Q I hw=>wpAny_tests_one (h pins s σ H Q I hw)
def vU (wi:TI) (k:Nat) (js:List Nat) (g:TG) (tc:TT) (te:TE):TE:=fun σ H Q=>wi σ H fun J H1=>∃W:Nat->Nat->St->Hp->List V->Prop,(∃m,W 0 m (jY k js σ) H1 [])/\∀i m σ' H' xs,W i m σ' H' xs ->
 (J.stop i H'/\xs.length<=sizeLine/\∀p,H' p=none->Q (.ref p) (bX H' p (.lst xs))) \/
 (J.go i H'/\xs.length<sizeLine/\∀x H2,J.yld i H' x H2->g x σ' H2 fun σ2 H3=>tc σ2 H3 fun b H4=>if b=true then te σ2 H4 fun v H5=>∃m',m'<m/\W (i+1) m' σ2 H5 (xs++[v]) else ∃m',m'<m/\W (i+1) m' σ2 H4 xs)
section
variable {X:Cx} {k:Nat} {js:List Nat} {N':List Str} {scope:Scope} {elt tg iter:Expr} {ifs:List Expr} {pos:Pos} {wi:TI} {g:TG} {tc:TT} {te:TE}
theorem zf (S:CompFit X k js N' scope) (hc:X.calm=true) (hi:PI X tg iter wi)
  (hg:∀C s₂ H₂ fp,PG (aQ X N' scope C s₂ H₂ fp) tg g) (hf:∀C s₂ H₂ fp,PF (aQ X N' scope C s₂ H₂ fp) ifs tc) (he:∀C s₂ H₂ fp,PE (aQ X N' scope C s₂ H₂ fp) elt te)
  (hs:∀x,foldedSetIterable iter X.env x=pure x:=by intro _; rfl):PE X (.ListComp elt [⟨tg,iter,ifs,0⟩] scope pos) (vU wi k js g tc te):=by
 intro pins s σ H Q I h;rw [eval_ListComp];refine wpAny_comprehension_free (use:=none) rfl hs (yv fun y hy hk=>I.ok.has y.1 (S.free y hy hk)) S.kind S.loc ?_;refine cG (hi pins s σ H _ I h) fun v s1 h1=>cG h1 fun itv s₂ h2=>?_;obtain ⟨it,fp,tn,J,H₂,rfl,I2,T,LH,f2,W,⟨m0,w0⟩,turn⟩:=h2;have N5:∀b∈fp,b<s₂.heap.objs.size:=fun b hb=>by obtain ⟨o,e,_⟩:=T.obj 0 _ LH b hb; exact K5 e
 refine wpAny_newObj_type (wpAny_newFunctionEnv S.nocell (by intro y hy; simp at hy) (fun h₁ Nf MM=>?_) S.kind);dsimp only at Nf MM ⊢;generalize hH2:s₂.heap.push { cls:=.type "list",dict:=none,data:=.seq ([]:List Value).toArray }=G at Nf MM ⊢;have hC:G.objs.size=s₂.heap.objs.size+1:=by rw [<-hH2,Heap.size_push]
 have NT:s₂.heap.objs.size≠G.objs.size:=by lia
 have MP:s₂.heap.objs.size<=G.objs.size:=by lia
 have old:∀b o,s₂.heap.get? b=some o->h₁.get? b=some o:=fun b o e=>MM.extBut b o (ik e MP) (KW _ (hH2▸KW _ e));have OO:h₁.get? s₂.heap.objs.size=some { cls:=.type "list",data:=.seq ([]:List Value).toArray }:=MM.extBut _ _ NT (KW _ (hH2▸Lv _ rfl));have NR:∀b∈fp,mD X pins H₂ b/\b<s₂.heap.objs.size:=fun b hb=>⟨f2 b hb,N5 b hb⟩;have I0:∀tk,Inv (aQ X N' scope G.objs.size s₂ H₂ fp) [] (jY k js σ) H₂ { s₂ with heap:=h₁,toks:=tk }:=fun tk=>pz I2 S MP NR old Nf;generalize hD:s₂.heap.objs.size=D at *;have Nd:∀{H':Hp} {s':Shared} {σ':St} {pp:List (Addr×Obj)} {o:Obj},Inv (aQ X N' scope G.objs.size s₂ H₂ fp) (pp++[(D,o)]) σ' H' s'->H' D=none/\s'.heap.get? D=some o:=fun {H' s' σ' pp o} J=>by
  have q:=J.pin (D,o) (KY _ (KY _ (Lg.mpr rfl)));exact ⟨q.2.1,q.1⟩
 have OK:D∉iP X.stack:=fun z=>by
  obtain ⟨_,o,ho,_⟩:=I2.stack.mem z;exact ik ho (Lx hD) rfl
 have M7:∀x c,(aQ X N' scope G.objs.size s₂ H₂ fp).env.cells.lookup x=some c->c≠D:=fun x c e z=>by
  obtain ⟨v,q⟩:=I2.cell x c (cw (fun d hd=>by simp at hd) e);exact dZ q.lt (Lx hD) z
 have Mj:∀{H':Hp} {pp:List (Addr×Obj)},(∀b∈fp,H' b=none)->(∀p∈pp,p.1=D)->∀b∈fp,mD (aQ X N' scope G.objs.size s₂ H₂ fp) pp H' b:=fun {H' pp} hn hp b hb=>by
  refine ⟨hn b hb,fun z=>?_,fun z=>?_,.inl hb,fun x c e=>(NR b hb).1.2.2.2.2.1 x c (cw (fun d hd=>by simp at hd) e),fun p M1 z=>?_⟩
  ·exact dZ (N5 b hb) MP z
  ·rcases Lc.mp (I2.stkSub b z) with e|e
   ·exact (NR b hb).1.2.1 e
   ·exact (NR b hb).1.2.2.1 e
  ·have e1:p.1=D:=hp p (by simpa [aQ] using M1);exact dZ (N5 b hb) (K2 _) (z.symm.trans e1)
 have Ox:∀{σ':St} {H':Hp} {s':Shared} {ys:List Value} {c:Nat},Inv (aQ X N' scope G.objs.size s₂ H₂ fp) [] σ' H' s'->s'.heap.get? D=some { cls:=.type "list",data:=.seq ys.toArray c }->H' D=none ->
   Inv (aQ X N' scope G.objs.size s₂ H₂ fp) [(D,{ cls:=.type "list",data:=.seq ys.toArray c })] σ' H' s':=fun {σ' H' s' ys c} J e n=>J.pins_of fun p hp=>by
  have e1:=Lg.mp hp;subst e1;exact ⟨e,n,NT,OK,fun v z=>by cases z⟩
 have loop:∀s₃:Shared,(∃tk,s₃={ s₂ with heap:=h₁,toks:=tk })->codeAny (model X.prog X.w) X.A (.compLoop (.ListComp elt [⟨tg,iter,ifs,0⟩] scope pos) 0 (.ref it) (.ref D) (aQ X N' scope G.objs.size s₂ H₂ fp).env)
   (compPost (model X.prog X.w) X.A X.xe none (EP X pins σ Q) (.ref D) G.objs.size) s₃:=by
  rintro s₃ ⟨tk,rfl⟩;refine pA (fun n s'=>∃i σ' H' xs ys c,Inv (aQ X N' scope G.objs.size s₂ H₂ fp) [] σ' H' s'/\tn i s'.heap/\(∀b∈fp,H' b=none)/\H' D=none/\s'.heap.get? D=some { cls:=.type "list",data:=.seq ys.toArray c }/\aX xs ys/\W i n σ' H' xs)
   ?_ m0 ⟨0,_,H₂,[],[],0,I0 tk,T.keep _ _ _ LH fun b hb o e=>old b o e,fun b hb=>(f2 b hb).1,I2.hok.fresh 0x1,OO,.nil,w0⟩
  rintro n s' ⟨i,σ',H',xs,ys,c,J',D',fr',nD,eD,rv,w'⟩;have J1:=Ox J' eD nD;rcases turn i n σ' H' xs w' with ⟨stop,hz,fin⟩|⟨go,hz,step⟩
  ·refine cG (T.done (aQ X N' scope G.objs.size s₂ H₂ fp) rfl rfl rfl hc i _ s' σ' H' _ J1 (Mj fr' fun p hp=>by rw [Lg.mp hp]) D' stop) fun r s4 ⟨hr,J4⟩=>?_;subst hr;obtain ⟨nD4,eD4⟩:=Nd (pp:=[]) J4;obtain ⟨mC,hnC,_⟩:=J4.loc;refine ⟨mC,hnC,fun h' NM=>?_⟩;have L0:∀b o,b≠G.objs.size->s4.heap.get? b=some o->h'.get? b=some o:=fun b o hb e=>NM.extBut b o hb e;have hC4:H' G.objs.size=none:=J4.free;have hun:Un (iP X.stack) fp H₂ (bX H' D (.lst xs)) s₂.heap h':=by
    have u:=J4.base;have neD:∀b o,s₂.heap.get? b=some o->b≠D:=fun b o e=>ik e (Lx hD);have Nz:∀b o,s₂.heap.get? b=some o->b≠G.objs.size:=fun b o e=>ik e (by rw [hD]; exact MP);have Nc:∀b o,H₂ b=some o->b≠D:=fun b o e=>dZ (I2.hok.lt e) (Lx hD);refine ⟨fun b o e n hb hx=>L0 b o (Nz b o e) (u.keep b o e n hb hx),fun b o e n hb hx=>?_,fun b o e n hx=>by rw [aG (neD b o e)]; exact u.free b o e n hx,fun b o e hx=>?_,
     fun b xs e=>by rw [aG (Nc b _ e)]; exact u.tups b xs e,fun b o z e=>by rw [aG (Nc b _ e)]; exact u.frzs b o z e,fun b ps e=>by rw [aG (Nc b _ e)]; exact u.tbls b ps e⟩
    ·obtain ⟨sl,q⟩:=u.slot b o e n hb hx;exact ⟨sl,L0 b _ (Nz b o e) q⟩
    ·obtain ⟨o',q⟩:=u.there b o e hx;exact ⟨o',L0 b _ (Nz b o e) q⟩
   have OU:k6 X.prog X.w (bX H' D (.lst xs)) h':=by
    intro b u e;by_cases hb:b=D
    ·subst hb;rw [aW] at e;cases e;exact ⟨hz,ys,c,rv,L0 _ _ NT eD4⟩
    ·rw [aG hb] at e;have hnD:∀a o,H' a=some o->a≠D:=fun a o e z=>by rw [z,nD4] at e; cases e
     refine (J4.hok b u e).stay (fun a v ha q=>L0 a v ?_ q) (fun a q=>by rw [aG (hnD a _ q)]; exact q) fun a zs q=>by rw [aG (hnD a _ q)]; exact q
     rintro rfl;rcases ha with z|z
     ·rw [<-z,hC4] at e; cases e
     ·rw [hC4] at z; cases z
   refine ⟨.ref D,bX H' D (.lst xs),I2.call' (s':={ s4 with heap:=h' }) J4.os hun OU J4.bare fun b hb=>?_,rfl,fin D nD4⟩;exact ⟨(f2 b hb).2.2.2.1,(f2 b hb).2.1,(f2 b hb).2.2.2.2.1,(f2 b hb).2.2.2.2.2⟩
  ·refine cG (T.item (aQ X N' scope G.objs.size s₂ H₂ fp) rfl rfl rfl hc i _ s' σ' H' FW J1 (Mj fr' fun p hp=>by rw [Lg.mp hp]) D' go) fun r s4 ⟨u,hr,h4⟩=>?_;subst hr;refine cG h4 fun _ s5 ⟨x,H5,I5,r5,y5,Nr,fr5⟩=>?_;have I5':=I5.pinned (Mj fr5 fun p hp=>by rw [Lg.mp hp]) (T.obj _ _ Nr);refine cG (hg _ _ _ _ _ s5 σ' H5 x u _ I5' r5 (step x H5 y5)) fun _ s6 ⟨σ6,H6,I6,q6⟩=>?_;refine cG (hf _ _ _ _ _ s6 σ6 H6 _ I6 q6) fun ok s7 ⟨H7,I7,q7⟩=>?_;have back:∀{σ8:St} {H8:Hp} {s8:Shared},Inv (aQ X N' scope G.objs.size s₂ H₂ fp) ([(D,{ cls:=.type "list",data:=.seq ys.toArray c })]++mZ fp s5.heap) σ8 H8 s8 ->
     Inv (aQ X N' scope G.objs.size s₂ H₂ fp) [] σ8 H8 s8/\tn (i+1) s8.heap/\(∀b∈fp,H8 b=none)/\H8 D=none/\s8.heap.get? D=some { cls:=.type "list",data:=.seq ys.toArray c }:=fun {σ8 H8 s8} J=>by
    have pd:=J.pin (D,{ cls:=.type "list",data:=.seq ys.toArray c }) (KY _ (KZ _ (Lg.mpr rfl)));have pf:∀b∈fp,∀o,s5.heap.get? b=some o->s8.heap.get? b=some o/\H8 b=none:=fun b hb o e=>by
     have q:=J.pin (b,o) (KY _ (KY _ (je hb e)));exact ⟨q.1,q.2.1⟩
    refine ⟨J.pins_of fun p hp=>absurd hp 0x4,T.keep _ _ _ Nr fun b hb o e=>(pf b hb o e).1,fun b hb=>?_,pd.2.1,pd.1⟩;obtain ⟨o,e,_⟩:=T.obj _ _ Nr b hb;exact (pf b hb o e).2
   cases ok with
   |false=>
    simp only [Bool.false_eq_true,if_false] at q7 ⊢;obtain ⟨m',hm,w7⟩:=q7;obtain ⟨b1,b2,b3,b4,b5⟩:=back I7;exact ⟨m',hm,i+1,σ6,H7,xs,ys,c,b1,b2,b3,b4,b5,rv,w7⟩
   |true=>
    simp only [if_true] at q7 ⊢;refine cG (he _ _ _ _ _ s7 σ6 H7 _ I7 q7) fun u8 s8 ⟨v8,H8,I8,r8,q8⟩=>?_;obtain ⟨m',hm,w8⟩:=q8;obtain ⟨b1,b2,b3,b4,b5⟩:=back I8;refine append_at b5 (fun h9 hs9 e9=>?_) (by rw [List.size_toArray,<-rv.length]; exact Nat.le_of_lt hz);have I9:Inv (aQ X N' scope G.objs.size s₂ H₂ fp) [] σ6 H8 { s8 with heap:=h9 }:=b1.turned (t':=s8.toks) (it:=D) (fun b o hb e=>(hs9.2 b hb).trans e) b4 NT (.inr (by show s₂.heap.objs.size<=D; lia)) M7 fun p hp=>absurd (show p∈([]:List (Addr×Obj)) from hp) 0x4;refine ⟨m',hm,i+1,σ6,H8,xs++[v8],ys++[u8],c+1,I9,T.keep _ _ _ b2 fun b hb o e=>(hs9.2 b ?_).trans e,b3,b4,?_,aX.append rv (.cons r8 .nil),w8⟩
    ·exact dZ (N5 b hb) (K2 _)
    ·rw [e9,List.push_toArray]
 exact codeAny_compStart_list (loop _ ⟨_,rfl⟩) (T.self _ 0 _ _ _ (T.keep _ _ _ LH fun b hb o e=>old b o e) (loop _ ⟨_,rfl⟩))
end
end L2
set_option autoImplicit false
namespace L3
open PySem PySem.Spec L2
open PyProof.Rows hiding St
mutual
noncomputable def fB:PyData->Bool
 |.int _=>true
 |.tuple xs=>iU xs
 |_=>false
noncomputable def iU:List PyData->Bool
 |[]=>true
 |x::r=>fB x&&iU r
end
mutual
noncomputable def u0:PyData->Int
 |.int n=>hashInt n
 |.tuple xs=>reduceHash (Builtin.Tuple.tupleHashOf (ma xs))
 |_=>0
noncomputable def ma:List PyData->List Int
 |[]=>[]
 |x::r=>u0 x::ma r
end
mutual
noncomputable def jc:PyData->Nat
 |.tuple xs=>oT xs+1
 |_=>1
noncomputable def oT:List PyData->Nat
 |[]=>0
 |x::r=>jc x+oT r
end
mutual
theorem oO:∀d:PyData,fB d=true->d.canLay0=true
 |.int _,_=>rfl
 |.tuple xs,h=>by unfold PyData.canLay0; exact vp xs (by unfold fB at h; exact h)
 |.none,h|.bool _,h|.str _,h|.list _,h|.dict _,h=>by simp [fB] at h
theorem vp:∀ds:List PyData,iU ds=true->PyData.canLayAll0 ds=true
 |[],_=>rfl
 |x::r,h=>by
  unfold iU at h;rw [Bool.and_eq_true] at h;unfold PyData.canLayAll0;rw [oO x h.1,vp r h.2]; rfl
end
mutual
theorem yq:∀x y:PyData,fB x=true->fB y=true->(PyData.eqv x y=true↔x=y)
 |.int a,.int b,_,_=>by unfold PyData.eqv; simp
 |.int a,.tuple ys,_,_=>by unfold PyData.eqv; simp
 |.tuple xs,.int b,_,_=>by unfold PyData.eqv; simp
 |.tuple xs,.tuple ys,h,h'=>by
  unfold PyData.eqv;unfold fB at h h';rw [vb xs ys h h']; simp
 |.none,_,h,_|.bool _,_,h,_|.str _,_,h,_|.list _,_,h,_|.dict _,_,h,_=>by simp [fB] at h
 |.int _,.none,_,h|.int _,.bool _,_,h|.int _,.str _,_,h|.int _,.list _,_,h|.int _,.dict _,_,h=>by simp [fB] at h
 |.tuple _,.none,_,h|.tuple _,.bool _,_,h|.tuple _,.str _,_,h|.tuple _,.list _,_,h|.tuple _,.dict _,_,h=>by simp [fB] at h
theorem vb:∀xs ys:List PyData,iU xs=true->iU ys=true->(PyData.eqvAll xs ys=true↔xs=ys)
 |[],[],_,_=>by unfold PyData.eqvAll; simp
 |[],_::_,_,_=>by unfold PyData.eqvAll; simp
 |_::_,[],_,_=>by unfold PyData.eqvAll; simp
 |x::r,y::t,h,h'=>by
  unfold iU at h h';rw [Bool.and_eq_true] at h h';unfold PyData.eqvAll;rw [Bool.and_eq_true,yq x y h.1 h'.1,vb r t h.2 h'.2]; simp
end
section
variable {prog:Program} {w:World} {E:Value->Shared->Prop}
mutual
theorem vR:∀(d:PyData) (v:Value) (as:List Addr) (A:Around) (s:Shared) (Q:Int->Shared->Prop),fB d=true->Reads s.heap v d as->A.units+d.depth<cLine ->
  Q (u0 d) { s with toks:=s.toks+jc d }->wpAny (model prog w) A (pyHash v) Q E s
 |.int n,_,_,A,s,Q,_,r,_,h=>by
  cases r;unfold u0 jc at h;exact wpAny_pyHash_int h
 |.tuple xs,_,_,A,s,Q,hk,r,hu,h=>by
  cases r with
  |@tuple a o vs n _ Nq hg hc hd hr=>
   refine PySem.W.pyHash_slot (T:= "tuple") ⟨_,hg,hc⟩ F.slot_tuple_hash F.entry_tuple_hash (F.args_tuple_hash_1 _) (beq_builtin_none _) (.inr (by unfold PyData.depth at hu; lia)) ?_;show wpAny _ _ (Builtin.Tuple.tupleItemsOf (.ref a) >>= _) _ _ s;refine K3 (wpAny_tupleItemsOf hg hd ?_);refine K3 ?_;rw [<-Array.forIn_toList];refine rm xs vs.toList _ A.in1 s #[] _ (by unfold fB at hk; exact hk) hr (by unfold PyData.depth at hu; show A.units+1+_<_; lia) fun b hb=>?_;show wpAny _ _ (retInt (Builtin.Tuple.tupleHashOf b.toList)) _ _ _;rw [hb];refine K3 (wpAny_mkInt (K4 ⟨_,_,rfl,?_⟩));unfold u0 jc at h;simpa [Nat.add_assoc] using h
 |.none,_,_,_,_,_,h,_,_,_|.bool _,_,_,_,_,_,h,_,_,_|.str _,_,_,_,_,_,h,_,_,_|.list _,_,_,_,_,_,h,_,_,_|.dict _,_,_,_,_,_,h,_,_,_=>by simp [fB] at h
theorem rm:∀(xs:List PyData) (vs:List Value) (as:List Addr) (A:Around) (s:Shared) (b:Array Int) (Q:Array Int->Shared->Prop),iU xs=true->ReadsAll s.heap vs xs as->A.units+PyData.depthAll xs<cLine ->
  (∀b',b'.toList=b.toList++ma xs->Q b' { s with toks:=s.toks+oT xs }) ->
  wpAny (model prog w) A (forIn vs b fun x r=>do let h <-pyHash x; pure PUnit.unit; pure (ForInStep.yield (r.push h))) Q E s
 |[],_,_,A,s,b,Q,_,r,_,h=>by
  cases r;exact K4 (h b (by simp [ma]))
 |k::xs,_,_,A,s,b,Q,hk,r,hu,h=>by
  cases r with
  |cons x1 x2=>
   unfold iU at hk;rw [Bool.and_eq_true] at hk;unfold PyData.depthAll at hu;rw [List.forIn_cons];refine K3 (K3 (vR k _ _ A s _ hk.1 x1 0x1 ?_));refine K3 (K4 (K4 ?_));refine rm xs _ _ A _ _ Q hk.2 x2 0x1 fun b' hb=>?_;have:=h b' (by simp [hb,ma]);unfold oT at this;simpa [Nat.add_assoc] using this
end
theorem sD:∀(n:Nat) (d:PyData) (v:Value) (as:List Addr) (A:Around) (s:Shared) (Q:Bool->Shared->Prop),fB d=true->Reads s.heap v d as->d.depth<=n->Q true s->wpAny (model prog w) A (eqIsQuiet n v) Q E s
 |n,.int i,_,_,A,s,Q,_,r,_,h=>by
  cases r;rw [eqIsQuiet_byValue n rfl];exact K4 h
 |0,.tuple xs,_,_,A,s,Q,hk,r,hn,h=>by unfold PyData.depth at hn; lia
 |n+1,.tuple xs,_,_,A,s,Q,hk,r,hn,h=>by
  cases r with
  |@tuple a o vs m _ Nq hg hc hd hr=>
   have hT:s.TypeIs (.ref a) "tuple" :=⟨_,hg,hc⟩;unfold eqIsQuiet;refine K3 (wpAny_specialOf hT F.slot_tuple_eq.lookup ?_);show wpAny _ _ (isInstance (.ref a) (.type "tuple") >>= _) _ _ s;refine K3 (wpAny_isInstance hT isSubtype_tuple_tuple ?_);simp only [Bool.not_true,Bool.false_eq_true,if_false];refine K3 (wpAny_seqItems hg hd ?_);refine K3 ?_;show wpAny _ _ (forIn vs _ _) _ _ s;rw [<-Array.forIn_toList];refine wpAny_forIn_list _ (fun cF r s'=>r.1=none/\s'=s/\∃ys bs,ReadsAll s.heap cF ys bs/\iU ys=true/\PyData.depthAll ys<=n) _ ?_ ?_ _ _ ⟨rfl,rfl,xs,_,hr,(by unfold fB at hk; exact hk),by unfold PyData.depth at hn; lia⟩
   ·rintro v cF r s' ⟨hr',rfl,ys,bs,hy,ky,dy⟩;cases hy with
    |@cons _ _ d ds as1 bs1 y1 y2=>
     unfold iU at ky;rw [Bool.and_eq_true] at ky;unfold PyData.depthAll at dy;refine K3 (sD n d v _ A s' _ ky.1 y1 0x1 ?_);simp only [Bool.not_true,Bool.false_eq_true,if_false];exact K4 ⟨rfl,rfl,ds,_,y2,ky.2,0x1⟩
   ·rintro ⟨r1,r2⟩ s' ⟨hr',rfl,_⟩;simp only at hr';subst hr';exact K4 h
 |_,.none,_,_,_,_,_,h,_,_,_|_,.bool _,_,_,_,_,_,h,_,_,_|_,.str _,_,_,_,_,_,h,_,_,_|_,.list _,_,_,_,_,_,h,_,_,_|_,.dict _,_,_,_,_,_,h,_,_,_=>by simp [fB] at h
mutual
theorem se {h h':Heap} {d:Addr} {o:Obj} {es:Array DictEntry} {ep:Nat} (ho:h.get? d=some o) (hd:o.data=.dict es ep) (hs:Heap.SameBut d h h'):∀(x:PyData) (v:Value) (as:List Addr),fB x=true->Reads h v x as->Reads h' v x as
 |.int n,_,_,_,r=>by cases r; exact .int _ _
 |.tuple xs,_,_,hk,r=>by
  cases r with
  |@tuple a o' vs m _ Nq hg hc hq hr=>
   have Od:a≠d:=fun e=>by subst e; rw [ho] at hg; cases hg; rw [hd] at hq; cases hq
   exact .tuple ((hs.2 a Od).trans hg) hc hq (sq ho hd hs xs _ _ (by unfold fB at hk; exact hk) hr)
 |.none,_,_,h,_|.bool _,_,_,h,_|.str _,_,_,h,_|.list _,_,_,h,_|.dict _,_,_,h,_=>by simp [fB] at h
theorem sq {h h':Heap} {d:Addr} {o:Obj} {es:Array DictEntry} {ep:Nat} (ho:h.get? d=some o) (hd:o.data=.dict es ep) (hs:Heap.SameBut d h h'):∀(xs:List PyData) (vs:List Value) (as:List Addr),iU xs=true->ReadsAll h vs xs as->ReadsAll h' vs xs as
 |[],_,_,_,r=>by cases r; exact .nil
 |x::t,_,_,hk,r=>by
  unfold iU at hk;rw [Bool.and_eq_true] at hk;cases r with
  |cons r1 r2=>exact .cons (se ho hd hs x _ _ hk.1 r1) (sq ho hd hs t _ _ hk.2 r2)
end
noncomputable instance decD:DecidableEq PyData:=fun _ _=>Classical.propDecidable _
noncomputable def rA (prog:Program) (w:World):HeapKind prog w PyData where
 is:=fun h d a=>fB d=true/\d.depth<=6/\∃as,Reads h (.ref a) d as
 hash:=u0
 draws:=jc
 room:=fun A=>A.units+16<cLine
 inj:=fun ⟨h1,_,_,r1⟩ ⟨_,_,_,r2⟩=>(PySem.SeqAt.Reads.unique _ _ _ _ _ (oO _ h1) r1 r2)
 keeps:=fun ⟨h1,h2,as,r⟩ ho hd hs=>⟨h1,h2,as,se ho hd hs _ _ _ h1 r⟩
 pyHash:=fun hu ⟨h1,h2,as,r⟩ h=>vR _ _ as _ _ _ h1 r 0x1 h
 eqBool:=fun hu ⟨h1,h2,as,r⟩ ⟨g1,g2,bs,r'⟩ h=>SeqAt.eqBoolOverData _ _ _ _ _ _ _ _ _ _ _ _ r r' (oO _ h1) (oO _ g1) 0x1 (by
  have e:=yq _ _ h1 g1;have q:PyData.eqv _ _=decide _:=Bool.eq_iff_iff.mpr (e.trans (decide_eq_true_iff).symm);rw [q]; exact h)
 quiet:=fun ⟨h1,h2,as,r⟩ h=>sD 8 _ _ as _ _ _ h1 r 0x1 h
end
mutual
inductive RpT (T:Addr->List V->Prop):PyData->V->Prop
 |int (i:Int):RpT T (.int i) (.int i)
 |tup {a:Addr} {xs:List PyData} {vs:List V}:T a vs->RpTL T xs vs->RpT T (.tuple xs) (.ref a)
inductive RpTL (T:Addr->List V->Prop):List PyData->List V->Prop
 |nil:RpTL T [] []
 |cons {d:PyData} {v:V} {ds:List PyData} {vs:List V}:RpT T d v->RpTL T ds vs->RpTL T (d::ds) (v::vs)
end
abbrev tv (H:Hp):Addr->List V->Prop:=fun b xs=>H b=some (.tup xs)
mutual
theorem RpT.mono {T T':Addr->List V->Prop} (k:∀b xs,T b xs->T' b xs):∀{d:PyData} {v:V},RpT T d v->RpT T' d v
 |_,_,.int i=>.int i
 |_,_,.tup h l=>.tup (k _ _ h) (RpTL.mono k l)
theorem RpTL.mono {T T':Addr->List V->Prop} (k:∀b xs,T b xs->T' b xs):∀{ds:List PyData} {vs:List V},RpTL T ds vs->RpTL T' ds vs
 |_,_,.nil=>.nil
 |_,_,.cons r l=>.cons (RpT.mono k r) (RpTL.mono k l)
end
mutual
theorem RpT.reads {P:Program} {w:World} {H:Hp} {h:Heap} (ok:k6 P w H h):∀{d:PyData} {v:V} {u:Value},RpT (tv H) d v->bJ v u->∃as,Reads h u d as
 |_,_,_,.int i,r=>by obtain ⟨t,rfl⟩:=r; exact ⟨_,.int i t⟩
 |_,_,_,.tup (a:=a) q l,r=>by
  cases r;obtain ⟨_,B',rv,o,e,c,n,dd⟩:=(show cR P w H h a (.tup _) from ok a _ q);obtain ⟨as,ra⟩:=RpTL.reads ok l rv;exact ⟨_,.tuple e c dd (by simpa using ra)⟩
theorem RpTL.reads {P:Program} {w:World} {H:Hp} {h:Heap} (ok:k6 P w H h):∀{ds:List PyData} {vs:List V} {us:List Value},RpTL (tv H) ds vs->aX vs us->∃as,ReadsAll h us ds as
 |_,_,_,.nil,r=>by cases r; exact ⟨_,.nil⟩
 |_,_,_,.cons p l,r=>by
  cases r with
  |cons r rr=>
   obtain ⟨as,h1⟩:=RpT.reads ok p r;obtain ⟨bs,h2⟩:=RpTL.reads ok l rr;exact ⟨_,.cons h1 h2⟩
end
variable {n:Nat}
theorem IE (h:n+64<cLine):n+20<cLine:=by lia
structure KR (T:Addr->List V->Prop) (p:PyData×V) (q:PyData×Addr×Value):Prop where
 eq:p.1=q.1
 key:fB p.1=true
 deep:p.1.depth<=6
 at':RpT T p.1 (.ref q.2.1)
 val:bJ p.2 q.2.2
structure DX (P:Program) (w:World) (a:Addr) (kvs:List (PyData×V)) (T:Addr->List V->Prop) (h:Heap):Prop where
 sys:(a==sysModules)=false
 len:kvs.length<=sizeLine
 ex:∃xs,Paired (KR T) kvs xs/\∃o es ep,h.get? a=some o/\o.ExactDict/\o.data=.dict es ep/\es.toList=xs.map (entryOfKey (rA P w))/\(xs.map (·.1)).Nodup
noncomputable def dO (P:Program) (w:World) (a:Addr) (kvs:List (PyData×V)):HO:=.ext (DX P w a kvs)
variable {w:World} {a:Addr} {kvs:List (PyData×V)} {T:Addr->List V->Prop} {h h':Heap}
theorem DX.stay {P:Program} {T':Addr->List V->Prop} (x:DX P w a kvs T h) (k:∀b xs,T b xs->T' b xs) (ho:∀o,h.get? a=some o->h'.get? a=some o):DX P w a kvs T' h':=by
 obtain ⟨s,l,xs,r,o,es,ep,e,c⟩:=x;exact ⟨s,l,xs,Paired.mapP r fun p q z=>⟨z.eq,z.key,z.deep,z.at'.mono k,z.val⟩,o,es,ep,ho o e,c⟩
theorem DX.obj {P:Program} (x:DX P w a kvs T h):∃o,h.get? a=some o:=by
 obtain ⟨_,_,_,_,o,_,_,e,_⟩:=x;exact ⟨o,e⟩
variable {s:Shared}
theorem DX.type {P:Program} (x:DX P w a kvs T s.heap):s.TypeIs (.ref a) "dict" /\ ∃o,s.heap.get? a=some o/\o.dict=none:=by
 obtain ⟨_,_,_,_,o,_,_,e,c,_⟩:=x;exact ⟨⟨o,e,c.1⟩,o,e,c.2.1⟩
variable {H:Hp}
theorem DX.dict {P:Program} (x:DX P w a kvs (tv H) h) (ok:k6 P w H h):∃xs,Paired (KR (tv H)) kvs xs/\h.DictOfH (rA P w) a xs:=by
 obtain ⟨_,_,xs,r,o,es,ep,e,c,d,f,n⟩:=x;refine ⟨xs,r,o,es,ep,e,c,d,f,fun x hx=>?_,n⟩;have all:∀{l:List (PyData×V)} {m:List (PyData×Addr×Value)},Paired (KR (tv H)) l m->∀x∈m,(rA P w).is h x.1 x.2.1:=by
  intro l m q
  induction q with
  |nil=>intro x hx; exact nomatch hx
  |@cons p q ps qs hq t ih=>
   intro x hx;rcases Lc.mp hx with e|hx
   ·subst e;rw [<-hq.eq];exact ⟨hq.key,hq.deep,RpT.reads ok hq.at' rfl⟩
   ·exact ih x hx
 exact all r x hx
noncomputable def lV (kvs:List (PyData×V)) (k:PyData):Option V:=(kvs.find? fun x=>decide (x.1=k)).map (·.2)
theorem o4 {xs:List (PyData×Addr×Value)} (r:Paired (KR T) kvs xs) (k:PyData):(lV kvs k=none/\atKey xs k=none)\/∃v p,lV kvs k=some v/\atKey xs k=some p/\bJ v p.2:=by
 induction r with
 |nil=>exact .inl ⟨rfl,rfl⟩
 |@cons p q ps qs h t ih=>
  by_cases e:p.1=k
  ·have e':q.1=k:=h.eq.symm.trans e;exact .inr ⟨p.2,q.2,by simp [lV,List.find?_cons,e],by simp [atKey,List.find?_cons,e'],h.val⟩
  ·have e':¬q.1=k:=fun z=>e (h.eq.trans z);have a:lV (p::ps) k=lV ps k:=by simp [lV,List.find?_cons,e]
   have b:atKey (q::qs) k=atKey qs k:=by simp [atKey,List.find?_cons,e']
   rw [a,b]; exact ih
noncomputable def wR (kvs:List (PyData×V)) (k:PyData) (v:V):List (PyData×V):=if (lV kvs k).isSome then kvs.map fun x=>if x.1=k then (x.1,v) else x else kvs++[(k,v)]
variable {v:V}
theorem Bk {xs:List (PyData×Addr×Value)} {k:PyData} {b:Addr} {u:Value} (r:Paired (KR T) kvs xs) (h1:fB k=true) (h2:k.depth<=6) (h3:RpT T k (.ref b)) (h4:bJ v u) :
  Paired (KR T) (wR kvs k v) (storedH xs k b u):=by
 unfold wR;rcases o4 r k with ⟨e1,e2⟩|⟨v',p,e1,e2,_⟩
 ·rw [e1,storedH_new e2];exact Paired.snoc r ⟨rfl,h1,h2,h3,h4⟩
 ·rw [e1,storedH_old e2];show Paired (KR T) (kvs.map fun x=>if x.1=k then (x.1,v) else x) (xs.map (putAt k u));clear e1 e2
  induction r with
  |nil=>exact .nil
  |@cons p q ps qs h t ih=>
   rw [List.map_cons,List.map_cons];refine .cons ?_ ih;unfold putAt;by_cases e:p.1=k
   ·rw [if_pos e,if_pos (h.eq.symm.trans e)]; exact ⟨h.eq,h.key,h.deep,h.at',h4⟩
   ·rw [if_neg e,if_neg (fun z=>e (h.eq.trans z))]; exact h
theorem vd (kvs:List (PyData×V)) (k:PyData) (v:V):(wR kvs k v).length<=kvs.length+1:=by
 unfold wR;split <;> simp
section
variable {X:Cx} {pins:List (Addr×Obj)} {σ:St} {H:Hp} {s:Shared} {a b:Addr} {kvs:List (PyData×V)} {k:PyData} {u r:Value} {v:V} {A:Around} {E:Value->Shared->Prop}
theorem Fy {P:Program} {H:Hp} {a:Addr} {kvs:List (PyData×V)} (x:DX P w a kvs (tv H) h):cR P w H h a (dO P w a kvs):=⟨x,x.obj,fun _ _ _ _ x k ho=>x.stay k ho⟩
theorem yU {P:Program} {H:Hp} {a:Addr} {kvs:List (PyData×V)} (ok:k6 P w H h) (e:H a=some (dO P w a kvs)):DX P w a kvs (tv H) h:=(show cR P w H h a (.ext _) from ok a _ e).1
theorem CG {P:Program} (ok:k6 P w H h) (h1:fB k=true) (h2:k.depth<=6) (h3:RpT (tv H) k (.ref b)):(rA P w).is h k b:=⟨h1,h2,RpT.reads ok h3 rfl⟩
variable {φ:(Addr->List V->Prop)->Heap->Prop}
theorem Gi {o:HO} (e:H a=some (.ext φ)):∀b xs,tv H b xs->tv (bX H a o) b xs:=fun b xs q=>by
 show bX H a o b=_;rw [aG (Iq q e (fun z=>nomatch z))]; exact q
theorem CI {ψ:(Addr->List V->Prop)->Heap->Prop} {t:Nat} (I:Inv X pins σ H s) (e:H a=some (.ext φ)) (hs:Heap.SameBut a s.heap h') (new:cR X.prog X.w (bX H a (.ext ψ)) h' a (.ext ψ)):Inv X pins σ (bX H a (.ext ψ)) { s with heap:=h',toks:=t }:=
 I.write (x:=a) (e:=a) (by rw [e]; exact True.intro) (.inl rfl) (fun b u hb q=>(hs.2 b hb).trans q) new.2.1 new
theorem DX.put {P:Program} {xs:List (PyData×Addr×Value)} (e:H a=some (.ext φ)) (x:DX P w a kvs (tv H) h) (rel:Paired (KR (tv H)) kvs xs) (h1:fB k=true) (h2:k.depth<=6) (h3:RpT (tv H) k (.ref b)) (rv:bJ v u) (hl:kvs.length<sizeLine)
  (dd:h'.DictOfH (rA P w) a (storedH xs k b u)) {o:HO}:DX P w a (wR kvs k v) (tv (bX H a o)) h':=by
 obtain ⟨ob,es,ep,q1,q2,q3,q4,_,q5⟩:=dd;exact ⟨x.sys,Lp (vd kvs k v) hl,_,Paired.mapP (Bk rel h1 h2 h3 rv) fun p q z=>⟨z.eq,z.key,z.deep,z.at'.mono (Gi e),z.val⟩,ob,es,ep,q1,q2,q3,q4,q5⟩
theorem HM {Q:Value->Shared->Prop} {d:V} (hu:A.units+20<cLine) (I:Inv X pins σ H s) (x:DX X.prog X.w a kvs (tv H) s.heap) (h1:fB k=true) (h2:k.depth<=6) (h3:RpT (tv H) k (.ref b)) (rd:bJ d r) (h:∀w' s',Inv X pins σ H s'->bJ ((lV kvs k).getD d) w'->Q w' s') :
  wpAny (model X.prog X.w) A (call (.builtin "dict.get") [.ref a,.ref b,r]) Q E s:=by
 obtain ⟨xs,rel,dd⟩:=x.dict I.hok;refine call_meetsIn PySem.F.slot_dict_get dd.typeIs PySem.F.entry_dict_get (PySem.F.args_dict_get_3 _ _ _) (meetsH_dict_get_default (rA X.prog X.w) a b x.sys r) ⟨(by show A.units+1+16<cLine; lia),k,xs,CG I.hok h1 h2 h3,dd,h _ _ (I.tok _) ?_⟩;rcases o4 rel k with ⟨e1,e2⟩|⟨v,p,e1,e2,e3⟩
 ·rw [e1,e2]; exact rd
 ·rw [e1,e2]; exact e3
theorem qW {prog:Program} {A:Around} {E:Value->Shared->Prop} {s:Shared} {d a:Addr} {xs:List (PyData×Addr×Value)} {k:PyData} {dflt:Value} {Q:Value->Shared->Prop} (hu:(rA prog w).room A) (M9:(rA prog w).is s.heap k a) (hm:s.heap.DictOfH (rA prog w) d xs)
  (OM:∀p,atKey xs k=some p->Q p.2 { s with toks:=s.toks+jc k })
  (OR:atKey xs k=none->∀h',h'.DictOfH (rA prog w) d (storedH xs k a dflt)->Heap.SameBut d s.heap h'->Q dflt { s with heap:=h',toks:=s.toks+jc k })
  (Ny:xs.length<=sizeLine):wpAny (model prog w) A (dictSetDefault d (.ref a) dflt) Q E s:=by
 obtain ⟨o,es,ep,ho,hc,hd,he,his,hn⟩:=hm;unfold dictSetDefault
 try with_reducible refine wpAny_holding ?_
 refine K3 ((rA prog w).pyHash hu M9 ?_);refine K3 (wpAny_dictFind_heap (s:={ s with toks:=s.toks+(rA prog w).draws k }) hu M9 ho hd he his hn ?_ ?_)
 ·intro hno;have hnot:k∉xs.map (·.1):=not_mem_keys_of_get hno;refine K3 (wpAny_rule (K3 (wpAny_updateDictKeys (hz:=by have e:=size_of_entries he; lia) (s:={ s with toks:=s.toks+(rA prog w).draws k }) ho hd (K4 (OR (atKey_none_of_get hno) _ ⟨_,_,ep+1,Heap.get?_update_self _ ho (Obj.isFreed_of_dict (Obj.data_mapDictKeys hd _)),
   hc.mapDictKeys _,Obj.data_mapDictKeys hd _,?_,?_,?_⟩ (Heap.SameBut.update ..))))))
  ·rw [storedH_new (atKey_none_of_get hno)];simp [he,entryOfKey]
  ·rw [storedH_new (atKey_none_of_get hno)];intro x hx;rcases Ld.mp hx with hx|hx
   ·exact (rA prog w).keeps (his x hx) ho hd (Heap.SameBut.update ..)
   ·simp only [List.mem_singleton] at hx;subst hx;exact (rA prog w).keeps M9 ho hd (Heap.SameBut.update ..)
  ·rw [storedH_new (atKey_none_of_get hno)];rw [List.map_append,List.nodup_append];refine ⟨hn,0x4,?_⟩;intro x hx y hy;simp only [List.map_cons,List.map_nil,List.mem_singleton] at hy;subst hy;exact fun e=>hnot (e▸hx)
 ·intro j p hj;refine K3 (wpAny_dictEntries (s:={ s with toks:=s.toks+(rA prog w).draws k }) ho hd ?_);rw [entry_at he j,hj];exact K3 (wpAny_rule (K4 (OM p (atKey_of_get hn hj))))
theorem nc {prog:Program} (d a:Addr) (hd:(d==sysModules)=false) (dflt:Value) :
  MeetsIn prog w (Builtin.«dict.setdefault» ⟨[.ref d,.ref a,dflt],[]⟩) (fun A R s=>(rA prog w).room A.in1/\∃k xs,(rA prog w).is s.heap k a/\s.heap.DictOfH (rA prog w) d xs/\xs.length<=sizeLine /\
   (∀p,atKey xs k=some p->R (.ok (.ret p.2)) { s with toks:=s.toks+jc k }) /\
   (atKey xs k=none->∀h',h'.DictOfH (rA prog w) d (storedH xs k a dflt)->Heap.SameBut d s.heap h'->R (.ok (.ret dflt)) { s with heap:=h',toks:=s.toks+jc k })):=
 .of_wp fun A R s ⟨hu,k,xs,M9,hm,hz,h1,h2⟩=>by
  unfold Builtin.«dict.setdefault»;refine K3 ?_;unfold Builtin.Dict.keyAndDefault;refine K3 (wpAny_notOrdered_dict hm.typeIs ?_);show wpAny _ _ (pure (d,Value.ref a,some dflt)) _ _ s;refine K4 ?_;show wpAny _ _ (if (d==sysModules)=true then _ else (dictSetDefault d (.ref a) dflt >>= _)) _ _ s;rw [if_neg (by rw [hd]; exact Bool.false_ne_true)];exact K3 (qW hu M9 hm (fun p hp=>K4 ⟨p.2,rfl,h1 p hp⟩) (fun hn h' NG NM=>K4 ⟨dflt,rfl,h2 hn h' NG NM⟩) hz)
theorem tL {Q:Value->Shared->Prop} {d:V} (hu:A.units+20<cLine) (I:Inv X pins σ H s) (e:H a=some (dO X.prog X.w a kvs)) (h1:fB k=true) (h2:k.depth<=6) (h3:RpT (tv H) k (.ref b)) (rd:bJ d r) (hl:kvs.length<sizeLine)
  (old:∀v w' s',lV kvs k=some v->Inv X pins σ H s'->bJ v w'->Q w' s') (new:lV kvs k=none->∀s',Inv X pins σ (bX H a (dO X.prog X.w a (kvs++[(k,d)]))) s'->Q r s') :
  wpAny (model X.prog X.w) A (call (.builtin "dict.setdefault") [.ref a,.ref b,r]) Q E s:=by
 have x:=yU I.hok e;obtain ⟨xs,rel,dd⟩:=x.dict I.hok;refine call_meetsIn PySem.F.slot_dict_setdefault dd.typeIs PySem.F.entry_dict_setdefault (PySem.F.args_dict_setdefault_3 _ _ _) (nc a b x.sys r) ⟨(by show A.units+1+16<cLine; lia),k,xs,CG I.hok h1 h2 h3,dd,by rw [<-Paired.length rel]; exact x.len,fun p hp=>?_,fun hn h' dd' hs=>?_⟩
 ·rcases o4 rel k with ⟨e1,e2⟩|⟨v,p',e1,e2,e3⟩
  ·rw [hp] at e2; cases e2
  ·rw [hp] at e2; cases e2
   exact old v _ _ e1 (I.tok _) e3
 ·rcases o4 rel k with ⟨e1,e2⟩|⟨v,p',e1,e2,e3⟩
  ·refine new e1 _ ?_;have y:=x.put (o:=dO X.prog X.w a (kvs++[(k,d)])) e rel h1 h2 h3 rd hl dd';have ev:wR kvs k d=kvs++[(k,d)]:=by unfold wR; rw [e1]; rfl
   rw [ev] at y;exact CI I e hs (Fy y)
  ·rw [hn] at e2; cases e2
end
theorem vX {α:Type}:∀(l U:List α),l.Nodup->(∀x∈l,x∈U)->l.length<=U.length
 |[],_,_,_=>Lo _
 |x::r,U,hn,hs=>by
  classical
  rw [List.nodup_cons] at hn;have hx:=hs x KU;have h:=vX r (U.erase x) hn.2 fun y hy=>by
   have Od:y≠x:=fun e=>hn.1 (e▸hy);exact (List.mem_erase_of_ne Od).mpr (hs y (KS _ hy))
  have e:=List.length_erase_of_mem hx;have hp:0<U.length:=List.length_pos_of_mem hx;rw [List.length_cons]; lia
def JY (f:PyData->Option Int) (U:List PyData) (kvs:List (PyData×V)):Prop:=∀p∈kvs,p.1∈U/\∃i,f p.1=some i/\p.2=.int i
def MX (P:Program) (w:World) (a:Addr) (f:PyData->Option Int) (U:List PyData) (T:Addr->List V->Prop) (h:Heap):Prop:=∃kvs,JY f U kvs/\DX P w a kvs T h
noncomputable def mO (P:Program) (w:World) (a:Addr) (f:PyData->Option Int) (U:List PyData):HO:=.ext (MX P w a f U)
section
variable {X:Cx} {pins:List (Addr×Obj)} {σ:St} {H:Hp} {s:Shared} {a b:Addr} {f:PyData->Option Int} {U:List PyData} {k:PyData} {u:Value} {A:Around} {E:Value->Shared->Prop}
theorem IM {P:Program} {H:Hp} {a:Addr} (hk:JY f U kvs) (x:DX P w a kvs (tv H) h):cR P w H h a (mO P w a f U):=⟨⟨kvs,hk,x⟩,x.obj,fun _ _ _ _ ⟨l,q,x⟩ k ho=>⟨l,q,x.stay k ho⟩⟩
theorem yF (h:lV kvs k=some v):(k,v)∈kvs:=by
 unfold lV at h;cases e:kvs.find? fun x=>decide (x.1=k) with
 |none=>rw [e] at h; cases h
 |some p=>
  rw [e] at h;cases h;have h1:=List.mem_of_find?_eq_some e;have h2:p.1=k:=by simpa using List.find?_some e
  rw [<-h2]; exact h1
theorem DQ {xs:List (PyData×Addr×Value)} (r:Paired (KR T) kvs xs):kvs.map (·.1)=xs.map (·.1):=by
 induction r with
 |nil=>rfl
 |cons h t ih=>rw [List.map_cons,List.map_cons,ih,h.eq]
theorem DX.few {P:Program} {a:Addr} (x:DX P w a kvs T h) (hk:JY f U kvs):kvs.length<=U.length:=by
 obtain ⟨_,_,xs,r,_,_,_,_,_,_,_,n⟩:=x;have:=vX (kvs.map (·.1)) U (by rw [DQ r]; exact n) fun y hy=>by
  obtain ⟨p,hp,rfl⟩:=Lf.mp hy;exact (hk p hp).1
 simpa using this
end
abbrev D:=PyData
mutual
inductive Rp (Z:List Addr) (H:Hp):D->V->Prop
 |none:Rp Z H .none .non
 |bool (b:Bool):Rp Z H (.bool b) (.bl b)
 |int (i:Int):Rp Z H (.int i) (.int i)
 |str (x:Str):PyData.strOk x=true->Rp Z H (.str x) (.str x)
 |tup {a:Addr} {xs:List D} {vs:List V}:a∉Z->H a=some (.tup vs)->RpL Z H xs vs->Rp Z H (.tuple xs) (.ref a)
 |lst {a:Addr} {xs:List D} {vs:List V}:a∉Z->H a=some (.lst vs)->RpL Z H xs vs->Rp Z H (.list xs) (.ref a)
inductive RpL (Z:List Addr) (H:Hp):List D->List V->Prop
 |nil:RpL Z H [] []
 |cons {d:D} {v:V} {ds:List D} {vs:List V}:Rp Z H d v->RpL Z H ds vs->RpL Z H (d::ds) (v::vs)
end
structure Kp (Z:List Addr) (H:Hp) (Z':List Addr) (H':Hp):Prop where
 keep:∀a o,a∉Z->H a=some o->H' a=some o
 new:∀a,a∈Z'->a∈Z\/H a=none
variable {Z:List Addr} {H':Hp}
theorem Kp.same (h:aF H H'):Kp Z H Z H':=⟨fun a o _ e=>h a o e,fun _ h=>.inl h⟩
theorem Kp.refl {Z:List Addr} {H:Hp}:Kp Z H Z H:=.same (aF.refl H)
theorem Kp.at {Z Z':List Addr} {H H':Hp} {a:Addr} {u:HO} (k:Kp Z H Z' H') (hz:a∉Z) (e:H a=some u):a∉Z'/\H' a=some u:=
 ⟨fun h=>(k.new a h).elim hz fun z=>(by rw [e] at z; cases z),k.keep a u hz e⟩
theorem aF.rd {u:HO} (h:aF H H') (r:Rd H a u):Rd H' a u:=by
 rcases r with e|⟨o,e⟩
 ·exact .inl (h _ _ e)
 ·exact .inr ⟨o,h _ _ e⟩
mutual
theorem Rp.kp {Z Z':List Addr} {H H':Hp} (k:Kp Z H Z' H'):∀{d:D} {v:V},Rp Z H d v->Rp Z' H' d v
 |_,_,.none=>.none
 |_,_,.bool b=>.bool b
 |_,_,.int i=>.int i
 |_,_,.str x h=>.str x h
 |_,_,.tup hz r l=>.tup (k.at hz r).1 (k.at hz r).2 (RpL.kp k l)
 |_,_,.lst hz r l=>.lst (k.at hz r).1 (k.at hz r).2 (RpL.kp k l)
theorem RpL.kp {Z Z':List Addr} {H H':Hp} (k:Kp Z H Z' H'):∀{ds:List D} {vs:List V},RpL Z H ds vs->RpL Z' H' ds vs
 |_,_,.nil=>.nil
 |_,_,.cons r l=>.cons (Rp.kp k r) (RpL.kp k l)
end
theorem Kp.trans {Z Z1 Z2:List Addr} {H H1 H2:Hp} (a:Kp Z H Z1 H1) (b:Kp Z1 H1 Z2 H2):Kp Z H Z2 H2:=by
 refine ⟨fun c o hc e=>?_,fun c hc=>?_⟩
 ·exact b.keep c o (fun h=>(a.new c h).elim hc fun z=>by rw [e] at z; cases z) (a.keep c o hc e)
 ·rcases b.new c hc with z|z
  ·exact a.new c z
  ·by_cases hz:c∈Z
   ·exact .inl hz
   ·refine .inr ?_;cases q:H c with
    |none=>rfl
    |some o=>rw [a.keep c o hz q] at z; cases z
theorem Kp.sub {Z':List Addr} (h:∀a,a∈Z'->a∈Z):Kp Z H Z' H:=⟨fun _ _ _ e=>e,fun a ha=>.inl (h a ha)⟩
theorem RpL.length {Z:List Addr} {H:Hp}:∀{ds:List D} {vs:List V},RpL Z H ds vs->ds.length=vs.length
 |_,_,.nil=>rfl
 |_,_,.cons _ l=>by simp [RpL.length l]
theorem RpL.get {Z:List Addr} {H:Hp}:∀{ds:List D} {vs:List V} {i:Nat} {d:D},RpL Z H ds vs->ds[i]?=some d->∃v,vs[i]?=some v/\Rp Z H d v
 |_,_,_,_,.nil,h=>by simp at h
 |_,_,0,_,.cons r _,h=>by simp at h; subst h; exact ⟨_,rfl,r⟩
 |_,_,i+1,d,.cons _ l,h=>by
  obtain ⟨v,e,r⟩:=RpL.get (i:=i) (d:=d) l (by simpa using h);exact ⟨v,by simpa using e,r⟩
theorem RpL.append {Z:List Addr} {H:Hp}:∀{ds es:List D} {vs us:List V},RpL Z H ds vs->RpL Z H es us->RpL Z H (ds++es) (vs++us)
 |_,_,_,_,.nil,s=>s
 |_,_,_,_,.cons r l,s=>.cons r (RpL.append l s)
theorem RpL.take {Z:List Addr} {H:Hp}:∀{ds:List D} {vs:List V} (n:Nat),RpL Z H ds vs->RpL Z H (ds.take n) (vs.take n)
 |_,_,0,_=>.nil
 |_,_,_+1,.nil=>.nil
 |_,_,n+1,.cons r l=>.cons r (RpL.take n l)
theorem RpL.drop {Z:List Addr} {H:Hp}:∀{ds:List D} {vs:List V} (n:Nat),RpL Z H ds vs->RpL Z H (ds.drop n) (vs.drop n)
 |_,_,0,l=>l
 |_,_,_+1,.nil=>.nil
 |_,_,n+1,.cons _ l=>RpL.drop n l
theorem RpL.rep {Z:List Addr} {H:Hp} {ds:List D} {vs:List V} (h:RpL Z H ds vs):∀k:Nat,RpL Z H (List.replicate k ds).flatten (List.replicate k vs).flatten
 |0=>.nil
 |k+1=>by
  rw [List.replicate_succ,List.replicate_succ,List.flatten_cons,List.flatten_cons];exact h.append (RpL.rep h k)
mutual
theorem Rp.reads {X:Cx} {pins:List (Addr×Obj)} {σ:St} {H:Hp} {s:Shared} (I:Inv X pins σ H s) {Z:List Addr}:∀{d:D} {v:V} {u:Value},Rp Z H d v->bJ v u->∃as,Reads s.heap u d as
 |_,_,_,.none,r=>by cases r; exact ⟨_,.none⟩
 |_,_,_,.bool b,r=>by cases r; exact ⟨_,.bool b⟩
 |_,_,_,.int i,r=>by obtain ⟨t,rfl⟩:=r; exact ⟨_,.int i t⟩
 |_,_,_,.str x _,r=>by obtain ⟨t,rfl⟩:=r; exact ⟨_,.str x t⟩
 |_,_,_,.tup hz q l,r=>by
  cases r;obtain ⟨B',rv,⟨o,e,c,n,dd⟩,_⟩:=I.tuple (kM.of q);obtain ⟨as,ra⟩:=RpL.reads I l rv;exact ⟨_,.tuple e c dd (by simpa using ra)⟩
 |_,_,_,.lst hz q l,r=>by
  cases r;obtain ⟨B',rv,⟨o,n,e,c,_,dd⟩,_⟩:=I.list (eN.of q);obtain ⟨as,ra⟩:=RpL.reads I l rv;exact ⟨_,.list e c dd (by simpa using ra)⟩
theorem RpL.reads {X:Cx} {pins:List (Addr×Obj)} {σ:St} {H:Hp} {s:Shared} (I:Inv X pins σ H s) {Z:List Addr}:∀{ds:List D} {vs:List V} {us:List Value},RpL Z H ds vs->aX vs us->∃as,ReadsAll s.heap us ds as
 |_,_,_,.nil,r=>by cases r; exact ⟨_,.nil⟩
 |_,_,_,.cons p l,r=>by
  cases r with
  |cons r rr=>
   obtain ⟨as,h1⟩:=Rp.reads I p r;obtain ⟨bs,h2⟩:=RpL.reads I l rr;exact ⟨_,.cons h1 h2⟩
end
mutual
theorem Rp.lay {Z:List Addr} {H:Hp}:∀{d:D} {v:V},Rp Z H d v->d.canLay0=true
 |_,_,.none=>rfl
 |_,_,.bool _=>rfl
 |_,_,.int _=>rfl
 |_,_,.str x h=>by unfold PyData.canLay0; exact h
 |_,_,.tup _ _ l=>by unfold PyData.canLay0; exact RpL.lay l
 |_,_,.lst _ _ l=>by unfold PyData.canLay0; exact RpL.lay l
theorem RpL.lay {Z:List Addr} {H:Hp}:∀{ds:List D} {vs:List V},RpL Z H ds vs->PyData.canLayAll0 ds=true
 |_,_,.nil=>rfl
 |_,_,.cons r l=>by unfold PyData.canLayAll0; rw [Rp.lay r,RpL.lay l]; rfl
end
def KL (K:Lb) (a:Addr) (xs:List V):Prop:=∃(o:Obj) (B':Array Value) (n:Nat),K.lookup a=some o/\o.cls=.type "list" /\ o.dict=none/\o.data=.seq B' n/\B'.size<=sizeLine/\aX xs B'.toList
abbrev d7:=Int×Int
abbrev By:=List (d7×List (List d7))
noncomputable def tD (t:d7):D:=.tuple [.int t.1,.int t.2]
noncomputable def wD (w:List d7):D:=.list (w.map tD)
inductive FzK where
 |dl (P:Program) (w:World) (l:By)
 |tb (P:Program) (w:World) (C:Addr) (l:By) (f:PyData->Option Int) (U:List PyData)
inductive DV where
 |d (x:D)
 |ob (C:Addr) (fs:List (Str×D))
 |fz (kvs:FzK)
 |ex (q:Addr)
 |tpo (p xs q:List D)
 |nwt (p xs q:List D)
 |own (xs:List D)
 |new (xs:List D)
 |scr (K:Lb) (ns:List Int)
abbrev DS:=List (Option DV)
def FK (Z:List Addr) (H:Hp):List (Str×D)->List (Str×V)->Prop:=Paired fun (p:Str×D) (q:Str×V)=>p.1=q.1/\Rp Z H p.2 q.2
def Dh (Z:List Addr) (H:Hp) (C:Addr) (fs:List (Str×D)) (v:V):Prop:=∃a dx gs,v=.ref a/\a∉Z/\H a=some (.ins C dx gs)/\FK Z H fs gs
def BK (Z:List Addr) (H:Hp):By->List (D×V)->Prop:=Paired fun (p:d7×List (List d7)) (q:D×V)=>q.1=tD p.1/\Rp Z H (.list (p.2.map wD)) q.2
def Ky (Z:List Addr) (H:Hp):FzK->Addr->Addr->Prop
 |.dl P w l,a,_=>a∉Z/\∃kvs,H a=some (dO P w a kvs)/\BK Z H l kvs
 |.tb P w C l f U,a,dx=>a∉Z/\∃b k kvs,H a=some (.ins C dx [("by_least",.ref b),("known",.ref k)])/\b∉Z/\H b=some (dO P w b kvs)/\BK Z H l kvs/\k∉Z/\H k=some (mO P w k f U)
def yn (Z:List Addr) (H:Hp) (x:FzK) (v:V):Prop:=∃a dx,v=.ref a/\Ky Z H x a dx
def KI (P Z:List Addr) (H:Hp) (xs:List D) (v:V):Prop:=∃a vs,v=.ref a/\a∈P/\H a=some (.lst vs)/\RpL Z H xs vs
def Hd (P Z:List Addr) (H:Hp) (p xs q:List D) (v:V):Prop:=∃t a ps vs qs,v=.ref t/\t∉Z/\H t=some (.tup (ps++.ref a::qs))/\a∈P/\H a=some (.lst vs)/\RpL Z H p ps/\RpL Z H xs vs/\RpL Z H q qs
def BZ (Z:List Addr) (H H':Hp) (p xs q:List D) (v:V):Prop:=∃t a ps vs qs,v=.ref t/\t∉a::Z/\H' t=some (.tup (ps++.ref a::qs))/\H a=none/\H' a=some (.lst vs)/\RpL (a::Z) H' p ps/\RpL (a::Z) H' xs vs/\RpL (a::Z) H' q qs
def qX (H:Hp):DV->V->Addr->Prop
 |.own _,v,a=>v=.ref a
 |.tpo p _ _,v,a=>∃t vs,v=.ref t/\H t=some (.tup vs)/\vs[p.length]?=some (.ref a)
 |_,_,_=>False
noncomputable def EW:DV->Bool
 |.own _=>true
 |.tpo _ _ _=>true
 |_=>false
variable {x:DV}
theorem qX.q (h:qX H x v a):EW x=true:=by
 cases x <;> first|exact h.elim|rfl
def RE (O P:List Addr) (H H':Hp):DV->V->Prop
 |.d x,v=>Rp (P++O) H' x v
 |.ob C fs,v=>Dh (P++O) H' C fs v
 |.fz kvs,v=>yn (P++O) H' kvs v
 |.ex q,v=>v=.ref q
 |.tpo p xs q,v=>Hd P (P++O) H' p xs q v
 |.nwt p xs q,v=>BZ (P++O) H H' p xs q v
 |.own xs,v=>KI P (P++O) H' xs v
 |.new xs,v=>∃a vs,v=.ref a/\H a=none/\H' a=some (.lst vs)/\RpL (a::(P++O)) H' xs vs
 |.scr K ns,v=>∃a,v=.ref a/\((a∉P++O/\Rd H' a (.lst (ns.map V.int)))\/KL K a (ns.map V.int))
structure RS (O P:List Addr) (H:Hp) (σ:St) (δ:DS):Prop where
 len:σ.length=δ.length
 dom:∀a,a∈P++O->∃o,H a=some o
 apart:∀a,a∈P->a∉O
 at':∀(i:Nat) (x:DV),δ[i]?=some (some x)->∃v,σ[i]?=some (some v)/\(∀xs,x≠.new xs)/\RE O P H H x v
 one:∀(i j:Nat) (x y:DV) (v w:V) (a:Addr),δ[i]?=some (some x)->δ[j]?=some (some y)->σ[i]?=some (some v)->σ[j]?=some (some w)->qX H x v a->qX H y w a->i=j
theorem Hd.kp {P P' Z Z':List Addr} {H H':Hp} (k:Kp Z H Z' H') (hP:∀a u,a∈P->H a=some u->a∈P'/\H' a=some u) {p xs q:List D} {v:V} (h:Hd P Z H p xs q v):Hd P' Z' H' p xs q v:=by
 obtain ⟨t,a,ps,vs,qs,e,hz,ht,hp,ha,l1,l2,l3⟩:=h;exact ⟨t,a,ps,vs,qs,e,(k.at hz ht).1,(k.at hz ht).2,(hP a _ hp ha).1,(hP a _ hp ha).2,l1.kp k,l2.kp k,l3.kp k⟩
variable {xs q:List D}
theorem BZ.no {p:List D} (h:BZ Z H H p xs q v):False:=by
 obtain ⟨t,a,ps,vs,qs,e,hz,ht,hn,ha,_⟩:=h;rw [hn] at ha; cases ha
variable {H1 H2:Hp}
theorem BZ.on {p:List D} (h:BZ Z H H1 p xs q v) (s:aF H1 H2):BZ Z H H2 p xs q v:=by
 obtain ⟨t,a,ps,vs,qs,e,hz,ht,hn,ha,l1,l2,l3⟩:=h;exact ⟨t,a,ps,vs,qs,e,hz,s _ _ ht,hn,s _ _ ha,l1.kp (.same s),l2.kp (.same s),l3.kp (.same s)⟩
variable {O P:List Addr}
theorem qX.old (k:∀b o,b∉P++O->H b=some o->H' b=some o) (r:RE O P H H x v) (h:qX H' x v a):qX H x v a:=by
 cases x with
 |own xs=>exact h
 |tpo p xs q=>
  obtain ⟨t,b,ps,vs,qs,e,hz,ht,_⟩:=r;obtain ⟨t',us,e',Of,hu⟩:=h;subst e;cases e';rw [k _ _ hz ht] at Of;cases Of;exact ⟨t,_,rfl,ht,hu⟩
 |_=>exact h.elim
theorem qX.new (r:RE O P H H x v) (h:qX H x v a):a∈P:=by
 cases x with
 |own xs=>
  obtain ⟨b,vs,e,hP,_⟩:=r;have h':v=.ref a:=h;rw [h'] at e; cases e; exact hP
 |tpo p xs q=>
  obtain ⟨t,b,ps,vs,qs,e,hz,ht,hP,_,l,_⟩:=r;obtain ⟨t',us,e',Of,hu⟩:=h;subst e;cases e';rw [ht] at Of;cases Of;rw [l.length,List.getElem?_append_right (K2 _),Nat.sub_self] at hu;cases hu;exact hP
 |_=>exact h.elim
theorem FK.kp {Z Z':List Addr} {H H':Hp} (k:Kp Z H Z' H') {fs:List (Str×D)} {gs:List (Str×V)} (h:FK Z H fs gs):FK Z' H' fs gs:=Paired.mapP h fun _ _ r=>⟨r.1,r.2.kp k⟩
theorem Dh.kp {Z Z':List Addr} {H H':Hp} (k:Kp Z H Z' H') {C:Addr} {fs:List (Str×D)} {v:V} (h:Dh Z H C fs v):Dh Z' H' C fs v:=by
 obtain ⟨a,dx,gs,e,hz,ha,hf⟩:=h;refine ⟨a,dx,gs,e,fun hz'=>?_,k.keep _ _ hz ha,hf.kp k⟩;rcases k.new a hz' with z|z
 ·exact hz z
 ·rw [ha] at z; cases z
theorem BK.kp {Z Z':List Addr} {H H':Hp} (k:Kp Z H Z' H') {l:By} {kvs:List (D×V)} (h:BK Z H l kvs):BK Z' H' l kvs:=Paired.mapP h fun _ _ r=>⟨r.1,r.2.kp k⟩
theorem yn.kp {Z Z':List Addr} {H H':Hp} (k:Kp Z H Z' H') {x:FzK} {v:V} (h:yn Z H x v):yn Z' H' x v:=by
 obtain ⟨a,dx,e,h⟩:=h;refine ⟨a,dx,e,?_⟩;cases x with
 |dl P w l=>
  obtain ⟨hz,kvs,ha,hl⟩:=h;exact ⟨(k.at hz ha).1,kvs,(k.at hz ha).2,hl.kp k⟩
 |tb P w C l f U=>
  obtain ⟨hz,b,m,kvs,ha,hb,eb,hl,hm,em⟩:=h;exact ⟨(k.at hz ha).1,b,m,kvs,(k.at hz ha).2,(k.at hb eb).1,(k.at hb eb).2,hl.kp k,(k.at hm em).1,(k.at hm em).2⟩
theorem RS.same {O P:List Addr} {H H':Hp} {σ:St} {δ:DS} (r:RS O P H σ δ) (h:aF H H'):RS O P H' σ δ:=by
 refine ⟨r.len,fun a ha=>?_,r.apart,fun i x e=>?_,fun i j x y v w a e1 e2 e3 e4 o1 o2=>?_⟩
 ·obtain ⟨o,e⟩:=r.dom a ha;exact ⟨o,h a o e⟩
 ·obtain ⟨v,e1,e2,e3⟩:=r.at' i x e;refine ⟨v,e1,e2,?_⟩;cases x with
  |d x=>exact Rp.kp (.same h) e3
  |ob C fs=>exact Dh.kp (.same h) e3
  |fz kvs=>exact yn.kp (.same h) e3
  |ex q=>exact e3
  |tpo p xs q=>exact Hd.kp (.same h) (fun a u hp ha=>⟨hp,h a u ha⟩) e3
  |nwt p xs q=>exact (BZ.no e3).elim
  |own xs=>
   obtain ⟨a,vs,ev,hP,ha,hl⟩:=e3;exact ⟨a,vs,ev,hP,h a _ ha,hl.kp (.same h)⟩
  |new xs=>exact absurd rfl (e2 xs)
  |scr K ns=>
   obtain ⟨a,ev,hz⟩:=e3;exact ⟨a,ev,hz.imp (fun z=>⟨z.1,aF.rd h z.2⟩) fun z=>z⟩
 ·obtain ⟨v',d1,_,r1⟩:=r.at' i x e1;obtain ⟨w',d2,_,r2⟩:=r.at' j y e2;rw [e3] at d1; cases d1
  rw [e4] at d2; cases d2
  exact r.one i j x y v w a e1 e2 e3 e4 (o1.old (fun b o _ q=>h b o q) r1) (o2.old (fun b o _ q=>h b o q) r2)
theorem RE.on {O P:List Addr} {H H1 H2:Hp} {x:DV} {v:V} (r:RE O P H H1 x v) (h:aF H1 H2):RE O P H H2 x v:=by
 cases x with
 |d x=>exact Rp.kp (.same h) r
 |ob C fs=>exact Dh.kp (.same h) r
 |fz kvs=>exact yn.kp (.same h) r
 |ex q=>exact r
 |tpo p xs q=>exact Hd.kp (.same h) (fun a u hp ha=>⟨hp,h a u ha⟩) r
 |nwt p xs q=>exact BZ.on r h
 |own xs=>
  obtain ⟨a,vs,ev,hP,ha,hl⟩:=r;exact ⟨a,vs,ev,hP,h a _ ha,hl.kp (.same h)⟩
 |new xs=>
  obtain ⟨a,vs,ev,hn,ha,hl⟩:=r;exact ⟨a,vs,ev,hn,h a _ ha,hl.kp (.same h)⟩
 |scr K ns=>
  obtain ⟨a,ev,hz⟩:=r;exact ⟨a,ev,hz.imp (fun z=>⟨z.1,aF.rd h z.2⟩) fun z=>z⟩
theorem RE.from (r:RE O P H1 H2 x v) (h:aF H H1):RE O P H H2 x v:=by
 cases x with
 |d x=>exact r
 |ob C fs=>exact r
 |fz kvs=>exact r
 |ex q=>exact r
 |tpo p xs q=>exact r
 |nwt p xs q=>
  obtain ⟨t,a,ps,vs,qs,e,hz,ht,hn,ha,ll⟩:=r;exact ⟨t,a,ps,vs,qs,e,hz,ht,h.free hn,ha,ll⟩
 |own xs=>exact r
 |new xs=>
  obtain ⟨a,vs,ev,hn,ha,hl⟩:=r;exact ⟨a,vs,ev,h.free hn,ha,hl⟩
 |scr K ns=>exact r
abbrev M (α:Type):=Option (Except Value α)
noncomputable def bd {α β:Type} (m:M α) (f:α->M β):M β:=match m with
 |none=>none
 |some (.error c)=>some (.error c)
 |some (.ok a)=>f a
noncomputable def rt {α:Type} (a:α):M α:=some (.ok a)
variable {α β:Type}
@[simp] theorem aE (a:α) (f:α->M β):bd (rt a) f=f a:=rfl
@[simp] theorem Bs (a:α) (f:α->M β):bd (some (.ok a)) f=f a:=rfl
@[simp] theorem sS (f:α->M β):bd (none:M α) f=none:=rfl
noncomputable def op {α:Type} (o:Option α):M α:=match o with
 |none=>none
 |some a=>some (.ok a)
@[simp] theorem a8 (a:α):op (some a)=rt a:=rfl
theorem az {m:M α} {f:α->M β} {r:Except Value β} (h:bd m f=some r):(∃a,m=some (.ok a)/\f a=some r)\/(∃c,m=some (.error c)/\r=.error c):=by
 cases m with
 |none=>cases h
 |some e=>
  cases e with
  |ok a=>exact .inl ⟨a,rfl,h⟩
  |error c=>exact .inr ⟨c,rfl,by cases h; rfl⟩
noncomputable def v9:DV->Option D
 |.d x=>some x
 |.new xs=>some (.list xs)
 |.nwt p xs q=>some (.tuple (p++.list xs::q))
 |_=>none
noncomputable def k7:DV->Option (List D)
 |.d (.list xs)=>some xs
 |.own xs=>some xs
 |.new xs=>some xs
 |_=>none
noncomputable def Fp:DV->Option DV
 |.d x=>some (.d x)
 |.ob C fs=>some (.ob C fs)
 |.fz kvs=>some (.fz kvs)
 |.ex q=>some (.ex q)
 |.new xs=>some (.d (.list xs))
 |.nwt p xs q=>some (.d (.tuple (p++.list xs::q)))
 |.scr K ns=>some (.scr K ns)
 |_=>none
@[simp] theorem Es (K:Lb) (ns:List Int):Fp (.scr K ns)=some (.scr K ns):=rfl
@[simp] theorem zh (x:D):v9 (.d x)=some x:=rfl
@[simp] theorem oH (xs:List D):v9 (.new xs)=some (.list xs):=rfl
@[simp] theorem zj (xs:List D):k7 (.d (.list xs))=some xs:=rfl
@[simp] theorem oN (xs:List D):k7 (.own xs)=some xs:=rfl
@[simp] theorem oQ (xs:List D):k7 (.new xs)=some xs:=rfl
@[simp] theorem IL (x:D):Fp (.d x)=some (.d x):=rfl
@[simp] theorem Hj (C:Addr) (fs:List (Str×D)):Fp (.ob C fs)=some (.ob C fs):=rfl
@[simp] theorem Ds (xs:List D):Fp (.new xs)=some (.d (.list xs)):=rfl
section
variable {O P:List Addr} {H H':Hp} {x:DV} {v:V}
theorem l9 (dom:∀a,a∈P++O->∃o,H a=some o) (r:RE O P H H' (.new xs) v):Rp (P++O) H' (.list xs) v:=by
 obtain ⟨a,vs,rfl,hn,ha,hl⟩:=r;refine .lst (fun h=>?_) ha (hl.kp (.sub fun b hb=>KS _ hb));obtain ⟨o,e⟩:=dom a h;rw [e] at hn; cases hn
theorem pY {p:List D} (dom:∀a,a∈P++O->∃o,H a=some o) (r:RE O P H H' (.nwt p xs q) v):Rp (P++O) H' (.tuple (p++.list xs::q)) v:=by
 obtain ⟨t,a,ps,vs,qs,rfl,hz,ht,hn,ha,l1,l2,l3⟩:=r;have k:Kp (a::(P++O)) H' (P++O) H':=.sub fun b hb=>KS _ hb;refine .tup (fun h=>hz (KS _ h)) ht (RpL.append (l1.kp k) (.cons (.lst (fun h=>?_) ha (l2.kp k)) (l3.kp k)));obtain ⟨o,e⟩:=dom a h;rw [e] at hn; cases hn
theorem RE.data {d:D} (dom:∀a,a∈P++O->∃o,H a=some o) (r:RE O P H H' x v) (h:v9 x=some d):Rp (P++O) H' d v:=by
 cases x with
 |d y=>cases h; exact r
 |ob C fs=>cases h
 |fz kvs=>cases h
 |ex q=>cases h
 |tpo p xs q=>cases h
 |nwt p xs q=>cases h; exact pY dom r
 |own xs=>cases h
 |new xs=>cases h; exact l9 dom r
 |scr K ns=>cases h
theorem RE.list (r:RE O P H H' x v) (h:k7 x=some xs):∃a vs,v=.ref a/\H' a=some (.lst vs)/\RpL (P++O) H' xs vs:=by
 cases x with
 |d y=>
  cases y <;> simp only [k7] at h <;> try cases h
  have r':Rp (P++O) H' _ v:=r;cases r' with
  |lst hz q l=>exact ⟨_,_,rfl,q,l⟩
 |ob C fs=>cases h
 |fz kvs=>cases h
 |ex q=>cases h
 |tpo p xs q=>cases h
 |nwt p xs q=>cases h
 |own ys=>
  cases h;obtain ⟨a,vs,rfl,hP,ha,hl⟩:=r;exact ⟨a,vs,rfl,ha,hl⟩
 |new ys=>
  cases h;obtain ⟨a,vs,rfl,hn,ha,hl⟩:=r;exact ⟨a,vs,rfl,ha,hl.kp (.sub fun b hb=>KS _ hb)⟩
 |scr K ns=>cases h
theorem RE.arg {y:DV} (dom:∀a,a∈P++O->∃o,H a=some o) (r:RE O P H H' x v) (h:Fp x=some y):RE O P H H' y v:=by
 cases x with
 |d z=>cases h; exact r
 |ob C fs=>cases h; exact r
 |fz kvs=>cases h; exact r
 |ex q=>cases h; exact r
 |tpo p xs q=>cases h
 |nwt p xs q=>cases h; exact pY dom r
 |own xs=>cases h
 |new xs=>cases h; exact l9 dom r
 |scr K ns=>cases h; exact r
end
def Fn (E:XK) (O P:List Addr) (H₀ H:Hp) (Q:VK):Except Value DV->Prop
 |.ok x=>∀v H',aF H H'->RE O P H₀ H' x v->Q v H'
 |.error c=>∀dx H',aF H H'->E c dx H'
def Dp (E:XK) (H:Hp) (Q:Bool->Hp->Prop):Except Value Bool->Prop
 |.ok b=>∀H',aF H H'->Q b H'
 |.error c=>∀dx H',aF H H'->E c dx H'
def lU (O P:List Addr) (H H':Hp):List DV->List V->Prop:=Paired (RE O P H H')
def KE (E:XK) (O P:List Addr) (H₀ H:Hp) (Q:List V->Hp->Prop):Except Value (List DV)->Prop
 |.ok xs=>∀vs H',aF H H'->lU O P H₀ H' xs vs->Q vs H'
 |.error c=>∀dx H',aF H H'->E c dx H'
variable {E:XK} {H₀:Hp} {Q:VK} {r:Except Value DV}
theorem Fn.on (h:Fn E O P H₀ H Q r) (s:aF H H1):Fn E O P H₀ H1 Q r:=by
 cases r with
 |ok x=>exact fun v H' s' q=>h v H' (s.trans s') q
 |error c=>exact fun dx H' s'=>h dx H' (s.trans s')
theorem Dp.on {Q:Bool->Hp->Prop} {r:Except Value Bool} (h:Dp E H Q r) (s:aF H H1):Dp E H1 Q r:=by
 cases r with
 |ok x=>exact fun H' s'=>h H' (s.trans s')
 |error c=>exact fun dx H' s'=>h dx H' (s.trans s')
def tE (E:XK) (f:DS->M DV):TE:=fun σ H Q=>∃O P δ r,RS O P H σ δ/\f δ=some r/\Fn E O P H H Q r
def zm (E:XK) (f:DS->M Bool):TT:=fun σ H Q=>∃O P δ r,RS O P H σ δ/\f δ=some r/\Dp E H Q r
def JZ (E:XK) (f:DS->M (List DV)):TA:=fun σ H Q=>∃O P δ r,RS O P H σ δ/\f δ=some r/\KE E O P H H Q r
def PX (X:Cx) (E:XK) (e:Expr) (f:DS->M DV):Prop:=PE X e (tE E f)
def PB (X:Cx) (E:XK) (e:Expr) (f:DS->M Bool):Prop:=PT X e (zm E f)
def vg (X:Cx) (E:XK) (es:List Expr) (f:DS->M (List DV)):Prop:=PA X es (JZ E f)
section
variable {X:Cx} {E:XK}
variable {e:Expr}
theorem PE.mono {t t':TE} (h:PE X e t) (m:∀σ H Q,t' σ H Q->t σ H Q):PE X e t':=fun pins s σ H Q I q=>h pins s σ H Q I (m σ H Q q)
theorem PT.mono {t t':TT} (h:PT X e t) (m:∀σ H Q,t' σ H Q->t σ H Q):PT X e t':=fun pins s σ H Q I q=>h pins s σ H Q I (m σ H Q q)
theorem PA.mono {es:List Expr} {t t':TA} (h:PA X es t) (m:∀σ H Q,t' σ H Q->t σ H Q):PA X es t':=fun pos pins s σ H Q I q=>h pos pins s σ H Q I (m σ H Q q)
variable {σ:St}
theorem kR {f:DS->M DV} {g:DS->DV->M DV} {t:VK} (h:tE E (fun δ=>bd (f δ) (g δ)) σ H Q)
  (k:∀O P δ x r v H1,RS O P H σ δ->RS O P H1 σ δ->aF H H1->RE O P H H1 x v->g δ x=some r->Fn E O P H H1 Q r->t v H1):tE E f σ H t:=by
 obtain ⟨O,P,δ,r,rs,e,q⟩:=h;rcases az e with ⟨x,e1,e2⟩|⟨c,e1,e2⟩
 ·exact ⟨O,P,δ,.ok x,rs,e1,fun v H1 s1 re=>k O P δ x r v H1 rs (rs.same s1) s1 re e2 (q.on s1)⟩
 ·subst e2;exact ⟨O,P,δ,.error c,rs,e1,q⟩
theorem tU {f:DS->M DV} {g:DS->DV->M Bool} {Q:Bool->Hp->Prop} {t:VK} (h:zm E (fun δ=>bd (f δ) (g δ)) σ H Q)
  (k:∀O P δ x r v H1,RS O P H σ δ->RS O P H1 σ δ->aF H H1->RE O P H H1 x v->g δ x=some r->Dp E H1 Q r->t v H1):tE E f σ H t:=by
 obtain ⟨O,P,δ,r,rs,e,q⟩:=h;rcases az e with ⟨x,e1,e2⟩|⟨c,e1,e2⟩
 ·exact ⟨O,P,δ,.ok x,rs,e1,fun v H1 s1 re=>k O P δ x r v H1 rs (rs.same s1) s1 re e2 (q.on s1)⟩
 ·subst e2;exact ⟨O,P,δ,.error c,rs,e1,q⟩
theorem wx {f:DS->M Bool} {g:DS->Bool->M Bool} {Q:Bool->Hp->Prop} {t:Bool->Hp->Prop} (h:zm E (fun δ=>bd (f δ) (g δ)) σ H Q)
  (k:∀O P δ x r H1,RS O P H σ δ->RS O P H1 σ δ->aF H H1->g δ x=some r->Dp E H1 Q r->t x H1):zm E f σ H t:=by
 obtain ⟨O,P,δ,r,rs,e,q⟩:=h;rcases az e with ⟨x,e1,e2⟩|⟨c,e1,e2⟩
 ·exact ⟨O,P,δ,.ok x,rs,e1,fun H1 s1=>k O P δ x r H1 rs (rs.same s1) s1 e2 (q.on s1)⟩
 ·subst e2;exact ⟨O,P,δ,.error c,rs,e1,q⟩
noncomputable def af (i:Nat) (δ:DS):M DV:=op ((δ[i]?).join)
variable {pos:Pos}
theorem ag (i:Nat) {x:Str} (h:PE X (.Name x pos) (ph i)):PX X E (.Name x pos) (af i):=PE.mono h fun σ H Q q=>by
 obtain ⟨O,P,δ,r,rs,e,q⟩:=q;unfold af at e;cases ed:δ[i]? with
 |none=>rw [ed] at e; cases e
 |some o=>
  cases o with
  |none=>rw [ed] at e; cases e
  |some y=>
   rw [ed] at e;cases e;obtain ⟨v,e1,e2,e3⟩:=rs.at' i y ed;exact ⟨v,e1,q v H (aF.refl H) e3⟩
noncomputable def eC (x:D) (_:DS):M DV:=rt (.d x)
theorem sL {x:D} (h:PE X e (tC v)) (hr:∀Z H,Rp Z H x v):PX X E e (eC x):=PE.mono h fun σ H Q q=>by
 obtain ⟨O,P,δ,r,rs,e,q⟩:=q;cases e;exact q v H (aF.refl H) (hr _ _)
theorem aj {i:Int} {j pos}:PX X E (.Constant (.int i) j pos) (eC (.int i)):=sL GG fun _ _=>.int i
theorem ig {b:Bool} {j pos}:PX X E (.Constant (.bool b) j pos) (eC (.bool b)):=sL Ie fun _ _=>.bool b
theorem jS {x:Str} {j pos} (hx:PyData.strOk x=true):PX X E (.Constant (.str x) j pos) (eC (.str x)):=sL Co fun _ _=>.str x hx
theorem DP {x:Str} {i:Int} {t:Tok} (hg:Gl X x) (hm:X.mg x=some (.int i t)) (hd:(x==("__debug__" : Str))=false:=by decide):PX X E (.Name x pos) (eC (.int i)):=sL (v:=.int i) (Ex hg hm ⟨t,rfl⟩ hd) fun _ _=>.int i
def hJ (X:Cx) (E:XK) (f:Value->Value->Sem Value) (g:DV->DV->M DV):Prop:=
 ∀(pins:List (Addr×Obj)) (s:Shared) (σ:St) (O P:List Addr) (H₀ H:Hp) (x y:DV) (v u:V) (vv uu:Value) (r:Except Value DV) (Q:VK),Inv X pins σ H s->(∀a,a∈P++O->∃o,H₀ a=some o)->aF H₀ H ->
  RE O P H₀ H x v->RE O P H₀ H y u->bJ v vv->bJ u uu->g x y=some r->Fn E O P H₀ H Q r->wpAny (model X.prog X.w) X.A (f vv uu) (EP X pins σ Q) X.xe s
noncomputable def e2 (g:DV->DV->M DV) (fa fb:DS->M DV) (δ:DS):M DV:=bd (fa δ) fun x=>bd (fb δ) fun y=>g x y
variable {g:DV->DV->M DV}
theorem hJ.rule {f:Value->Value->Sem Value} {R:R2} (ho:uM X f R)
  (h:∀(O P:List Addr) (H₀ H:Hp) (x y:DV) (v u:V) (r:Except Value DV) (Q:VK),(∀a,a∈P++O->∃o,H₀ a=some o)->aF H₀ H->RE O P H₀ H x v->RE O P H₀ H y u->g x y=some r->Fn E O P H₀ H Q r->R v u H Q):hJ X E f g:=
 fun pins s σ O P H₀ H x y v u vv uu r Q I hd hs rx ry ev eu e q=>ho pins s σ H v u vv uu Q I ev eu (h O P H₀ H x y v u r Q hd hs rx ry e q)
variable {fa fb:DS->M DV}
theorem t2 (h:tE E (e2 g fa fb) σ H Q) {t:V->V->Hp->Prop}
  (k:∀O P x y r v u H1,(∀a,a∈P++O->∃o,H a=some o)->aF H H1->RE O P H H1 x v->RE O P H H1 y u->g x y=some r->Fn E O P H H1 Q r->t v u H1) :
  tE E fa σ H fun v H1=>tE E fb σ H1 fun u H2=>t v u H2:=by
 refine kR (g:=fun δ x=>bd (fb δ) fun y=>g x y) h fun O P δ x r v H1 rs LC s1 rx e q=>?_;rcases az e with ⟨y,e1,e2⟩|⟨c,e1,e2⟩
 ·refine ⟨O,P,δ,.ok y,LC,e1,fun u H2 s2 ry=>k O P x y r v u H2 rs.dom (s1.trans s2) (rx.on s2) (ry.from s1) e2 (q.on s2)⟩
 ·subst e2;exact ⟨O,P,δ,.error c,LC,e1,q⟩
theorem aJ {a b:Expr} {o:Operator} (ho:hJ X E (binaryOp o) g) (ha:PX X E a fa) (hb:PX X E b fb):PX X E (.BinOp a o b pos) (e2 g fa fb):=by
 intro pins s σ H Q I h;exact wpAny_BinOp (JD ha hb I (t2 h (t:=fun v u H1=>∃O P x y r,(∀a,a∈P++O->∃o,H a=some o)/\aF H H1/\RE O P H H1 x v/\RE O P H H1 y u/\g x y=some r/\Fn E O P H H1 Q r) fun O P x y r v u H1 h1 h2 h3 h4 h5 h6=>⟨O,P,x,y,r,h1,h2,h3,h4,h5,h6⟩)
  fun vv uu s2 v u H2 I2 rv ru ⟨O,P,x,y,r,h1,h2,h3,h4,h5,h6⟩=>ho pins s2 σ O P H H2 x y v u vv uu r Q I2 h1 h2 h3 h4 rv ru h5 h6)
theorem jo {a b:Expr} {o:CmpOp} (ho:hJ X E (compareOp o) g) (ha:PX X E a fa) (hb:PX X E b fb) (hm:behindInMarks o b=false:=by first|exact AJ _|rfl):PX X E (.Compare a [o] [b] pos) (e2 g fa fb):=by
 intro pins s σ H Q I h;exact wpAny_Compare1 (JD ha hb I (t2 h (t:=fun v u H1=>∃O P x y r,(∀a,a∈P++O->∃o,H a=some o)/\aF H H1/\RE O P H H1 x v/\RE O P H H1 y u/\g x y=some r/\Fn E O P H H1 Q r) fun O P x y r v u H1 h1 h2 h3 h4 h5 h6=>⟨O,P,x,y,r,h1,h2,h3,h4,h5,h6⟩)
  fun vv uu s2 v u H2 I2 rv ru ⟨O,P,x,y,r,h1,h2,h3,h4,h5,h6⟩=>ho pins s2 σ O P H H2 x y v u vv uu r Q I2 h1 h2 h3 h4 rv ru h5 h6) hm
noncomputable def gI (C:Int->Int->Bool) (h:Int->Int->D) (x y:DV):M DV:=match x,y with
 |.d (.int i),.d (.int j)=>if C i j=true then rt (.d (h i j)) else none
 |_,_=>none
theorem uT {C:Int->Int->Bool} {h:Int->Int->D} {y:DV} (e:gI C h x y=some r):∃i j,x=.d (.int i)/\y=.d (.int j)/\C i j=true/\r=.ok (.d (h i j)):=by
 unfold gI at e;split at e
 ·rename_i i j;split at e
  ·cases e; exact ⟨i,j,rfl,rfl,by assumption,rfl⟩
  ·cases e
 ·cases e
theorem tK {f:Value->Value->Sem Value} {C:Int->Int->Bool} {CP:Int->Int->Prop} {h:Int->Int->D} {hv:Int->Int->V} (ho:uM X f (rI CP hv)) (hC:∀i j,C i j=true->CP i j) (hr:∀i j Z H,Rp Z H (h i j) (hv i j)):hJ X E f (gI C h):=
 hJ.rule ho fun O P H₀ H x y v u r Q hd hs rx ry e q=>by
  obtain ⟨i,j,rfl,rfl,hc,rfl⟩:=uT e;cases rx; cases ry
  exact ⟨i,j,rfl,rfl,hC i j hc,q _ H (aF.refl H) (hr i j _ _)⟩
noncomputable def wW (_ _:Int):Bool:=true
theorem iE {f:Value->Value->Sem Value} {h:Int->Int->D} {hv:Int->Int->V} (ho:uM X f (Fc hv)) (hr:∀i j Z H,Rp Z H (h i j) (hv i j)):hJ X E f (gI wW h):=
 hJ.rule ho fun O P H₀ H x y v u r Q hd hs rx ry e q=>by
  obtain ⟨i,j,rfl,rfl,hc,rfl⟩:=uT e;cases rx; cases ry
  exact ⟨i,j,rfl,rfl,q _ H (aF.refl H) (hr i j _ _)⟩
noncomputable def CU:=gI wW fun i j=>.int (i+j)
noncomputable def gSub:=gI wW fun i j=>.int (i-j)
noncomputable def um (i j:Int):Bool:=(decide (-(2 ^ 64)<i)&&decide (i<2 ^ 64))||(decide (-(2 ^ 64)<j)&&decide (j<2 ^ 64))
noncomputable def Gq:=gI um fun i j=>.int (i*j)
noncomputable def Hc (_ j:Int):Bool:=decide (0<j)&&decide (j<1073741824)
noncomputable def uJ:=gI Hc fun i j=>.int (i / j)
noncomputable def Gy (_ j:Int):Bool:=decide (0<j)
noncomputable def iZ:=gI Gy fun i j=>.int (i % j)
noncomputable def J5:=gI wW fun i j=>.bool (decide (i<j))
noncomputable def Kd:=gI wW fun i j=>.bool (decide (i<=j))
noncomputable def mY:=gI wW fun i j=>.bool (decide (j<i))
noncomputable def HH:=gI wW fun i j=>.bool (decide (j<=i))
theorem Gf:hJ X E (binaryOp .Add) CU:=iE Gp fun _ _ _ _=>.int _
theorem g9:hJ X E (binaryOp .Sub) gSub:=iE HQ fun _ _ _ _=>.int _
theorem GJ:hJ X E (binaryOp .Mult) Gq:=tK Gd (fun i j h=>by simpa [um,E9] using h) fun _ _ _ _=>.int _
theorem qC:hJ X E (binaryOp .FloorDiv) uJ:=tK E1 (fun i j h=>by simpa [Hc,Ia] using h) fun _ _ _ _=>.int _
theorem gE:hJ X E (binaryOp .Mod) iZ:=tK Hz (fun i j h=>by simpa [Gy] using h) fun _ _ _ _=>.int _
theorem IP:hJ X E (compareOp .Lt) J5:=iE Il fun _ _ _ _=>.bool _
theorem Iu:hJ X E (compareOp .LtE) Kd:=iE Jk fun _ _ _ _=>.bool _
theorem pW:hJ X E (compareOp .Gt) mY:=iE Jh fun _ _ _ _=>.bool _
theorem yu:hJ X E (compareOp .GtE) HH:=iE IK fun _ _ _ _=>.bool _
end
noncomputable def cI (st:Bool) (i j:Int):Bool:=if st=true then decide (i<j) else decide (i<=j)
noncomputable def cS (st:Bool) (x y:Str):Bool:=if st=true then decide (x.cps.toList<y.cps.toList) else !decide (y.cps.toList<x.cps.toList)
mutual
noncomputable def cD (st:Bool):PyData->PyData->Option Bool
 |.int i,.int j=>some (cI st i j)
 |.str x,.str y=>some (cS st x y)
 |.tuple xs,.tuple ys=>cL st xs ys
 |_,_=>none
noncomputable def cL (st:Bool):List PyData->List PyData->Option Bool
 |[],[]=>some (!st)
 |[],_::_=>some true
 |_::_,[]=>some false
 |x::xs,y::ys=>if PyData.eqv x y=true then cL st xs ys else cD st x y
end
noncomputable def Kq (st:Bool):CmpOp:=if st=true then .Lt else .LtE
def Ju (A:Around) (s:Shared) (st:Bool) (a b:Value) (k:Bool):Prop:=
 ∀(prog:Program) (w:World) (E:Value->Shared->Prop) (Q:Value->Shared->Prop),Q (.bool k) s->wpAny (model prog w) A (richCompare (Kq st) a b) Q E s
theorem vQ {st:Bool} {k:Bool}:∀{xs ys:List PyData} {vs ws:List Value} {as bs:List Addr} {h:Heap},ReadsAll h vs xs as->ReadsAll h ws ys bs->vs.zip ws=[]->cL st xs ys=some k ->
  k=(if st=true then decide (vs.length<ws.length) else decide (vs.length<=ws.length))
 |_,_,_,_,_,_,_,.nil,.nil,_,e=>by
  unfold cL at e; cases e; cases st <;> rfl
 |_,_,_,_,_,_,_,.nil,.cons _ _,_,e=>by
  unfold cL at e; cases e; cases st <;> simp
 |_,_,_,_,_,_,_,.cons _ _,.nil,_,e=>by
  unfold cL at e; cases e; cases st <;> simp
 |_,_,_,_,_,_,_,.cons _ _,.cons _ _,z,_=>by cases z
section
open PySem.SeqAt
open PySem.AutoSeq1 (wpAny_loadPart')
open PySem.MeetsSeq PySem.MeetsSeq2 PySem.MeetsSeq3
theorem qZ (l b:Addr) (items LO:Array Value) (n n2:Nat) (dd N9:Option Addr) (sl NF:Array (Option Value)) (xs ys:List PyData) (k:Bool) (hk:cL true xs ys=some k)
  (ih:∀(A:Around) (s:Shared) (x y:PyData) (a c:Value) (as bs:List Addr) (j:Bool),x∈xs->Reads s.heap a x as->Reads s.heap c y bs->x.canLay0=true->y.canLay0=true->A.units+x.depth<cLine->cD true x y=some j->Ju A s true a c j) :
  Meets (Builtin.«tuple.__lt__» ⟨[.ref l,.ref b],[]⟩)
   (fun A R s=>s.heap.get? l=some { cls:=.type "tuple",dict:=dd,data:=.seq items n,slots:=sl }/\s.heap.get? b=some { cls:=.type "tuple",dict:=N9,data:=.seq LO n2,slots:=NF } /\
    (∃as,ReadsAll s.heap items.toList xs as)/\(∃as,ReadsAll s.heap LO.toList ys as)/\PyData.canLayAll0 xs=true/\PyData.canLayAll0 ys=true/\A.units+1+PyData.depthAll xs<cLine/\R (.ok (.ret (.bool k))) s):=
 .of_wp fun prog w A R s h=>by
  obtain ⟨hp,g,d,tk,os⟩:=s; obtain ⟨hl,hb,⟨as,hi⟩,⟨bs,hj⟩,c1,c2,hu,h⟩:=h
  have f2:=AutoSeq1.sub_tuple_tuple
  wp_walk using wpAny_loadPart' hl,wpAny_loadPart' hb,wpAny_forIn_list _ (fun cF b s'=>b.1=none/\s'=⟨hp,g,d,tk,os⟩/\∃(vs ws:List Value) (M0 NK:List PyData) (Nq OI:List Addr),cF=vs.zip ws /\
   ReadsAll hp vs M0 Nq/\ReadsAll hp ws NK OI/\vs.length+LO.size=ws.length+items.size/\(∀x∈M0,x∈xs)/\PyData.canLayAll0 M0=true/\PyData.canLayAll0 NK=true/\PyData.depthAll M0<=PyData.depthAll xs/\cL true M0 NK=some k) _
  case turn=>
   rintro ⟨y,x⟩ cF b s' ⟨Mv,rfl,vs,ws,M0,NK,Nq,OI,hz,OD,O0,hlen,LR,l1,l2,Nv,hc⟩;cases OD with
   |nil=>rw [List.zip_nil_left] at hz; cases hz
   |@cons v1 vs1 x1 xs1 a1 as1 rv OX=>
    cases O0 with
    |nil=>rw [List.zip_nil_right] at hz; cases hz
    |@cons w1 ws1 y1 ys1 b1 bs1 rw1 OH=>
     rw [List.zip_cons_cons] at hz
     injection hz with hyx Nm
     injection hyx with hy hx
     subst hy hx;unfold PyData.canLayAll0 at l1 l2;rw [Bool.and_eq_true] at l1 l2;unfold cL at hc;have Oy:PyData.depthAll (x1::xs1)=max x1.depth (PyData.depthAll xs1):=by rw [PyData.depthAll]
     rw [Oy] at Nv;simp only [List.length_cons] at hlen;have he:=eqAt_reads x1 y1 A.in1 ⟨hp,g,d,tk,os⟩ _ _ _ _ rv rw1 l1.1 l2.1 (by show A.units+1+_<cLine; lia);refine K3 (he prog w _ _ ?_);cases e:PyData.eqv x1 y1 with
     |true=>
      rw [e,if_pos rfl] at hc
      wp_walk
      exact ⟨rfl,rfl,_,_,_,_,_,_,Nm,OX,OH,0x1,fun z hz=>LR z (KS _ hz),l1.2,l2.2,0x1,hc⟩
     |false=>
      rw [e,if_neg Bool.false_ne_true] at hc;have hri:∀(E:Value->Shared->Prop) (Q:Value->Shared->Prop),Q (.bool k) ⟨hp,g,d,tk,os⟩->wpAny (model prog w) A.in1 (richCompare .Lt _ _) Q E ⟨hp,g,d,tk,os⟩:=ih A.in1 ⟨hp,g,d,tk,os⟩ x1 y1 _ _ _ _ k (LR x1 KU) rv rw1 l1.1 l2.1 (by show A.units+1+_<cLine; lia) hc prog w
      wp_walk using hri
      exact ⟨_,rfl,by simpa using h⟩
  case fin=>
   rintro ⟨b1,b2⟩ s' ⟨Mv,rfl,vs,ws,M0,NK,Nq,OI,hz,OD,O0,hlen,LR,l1,l2,Nv,hc⟩;simp only at Mv;subst Mv;have hv:=vQ OD O0 hz.symm hc;simp only [if_true] at hv;have hv2:decide (vs.length<ws.length)=decide (items.size<LO.size):=by
    by_cases q:vs.length<ws.length
    ·rw [Ls q,Ls 0x1]
    ·rw [Lr q,Lr 0x1]
   rw [hv2] at hv;rw [hv] at h
   wp_walk
   exact ⟨_,rfl,by simpa [Builtin.Tuple.tupleCompareSizes] using h⟩
  case h=>
   exact ⟨rfl,rfl,items.toList,LO.toList,xs,ys,as,bs,rfl,hi,hj,by simp; lia,fun _ hx=>hx,c1,c2,K2 _,hk⟩
theorem qN (l b:Addr) (items LO:Array Value) (n n2:Nat) (dd N9:Option Addr) (sl NF:Array (Option Value)) (xs ys:List PyData) (k:Bool) (hk:cL false xs ys=some k)
  (ih:∀(A:Around) (s:Shared) (x y:PyData) (a c:Value) (as bs:List Addr) (j:Bool),x∈xs->Reads s.heap a x as->Reads s.heap c y bs->x.canLay0=true->y.canLay0=true->A.units+x.depth<cLine->cD false x y=some j->Ju A s false a c j) :
  Meets (Builtin.«tuple.__le__» ⟨[.ref l,.ref b],[]⟩)
   (fun A R s=>s.heap.get? l=some { cls:=.type "tuple",dict:=dd,data:=.seq items n,slots:=sl }/\s.heap.get? b=some { cls:=.type "tuple",dict:=N9,data:=.seq LO n2,slots:=NF } /\
    (∃as,ReadsAll s.heap items.toList xs as)/\(∃as,ReadsAll s.heap LO.toList ys as)/\PyData.canLayAll0 xs=true/\PyData.canLayAll0 ys=true/\A.units+1+PyData.depthAll xs<cLine/\R (.ok (.ret (.bool k))) s):=
 .of_wp fun prog w A R s h=>by
  obtain ⟨hp,g,d,tk,os⟩:=s; obtain ⟨hl,hb,⟨as,hi⟩,⟨bs,hj⟩,c1,c2,hu,h⟩:=h
  have f2:=AutoSeq1.sub_tuple_tuple
  wp_walk using wpAny_loadPart' hl,wpAny_loadPart' hb,wpAny_forIn_list _ (fun cF b s'=>b.1=none/\s'=⟨hp,g,d,tk,os⟩/\∃(vs ws:List Value) (M0 NK:List PyData) (Nq OI:List Addr),cF=vs.zip ws /\
   ReadsAll hp vs M0 Nq/\ReadsAll hp ws NK OI/\vs.length+LO.size=ws.length+items.size/\(∀x∈M0,x∈xs)/\PyData.canLayAll0 M0=true/\PyData.canLayAll0 NK=true/\PyData.depthAll M0<=PyData.depthAll xs/\cL false M0 NK=some k) _
  case turn=>
   rintro ⟨y,x⟩ cF b s' ⟨Mv,rfl,vs,ws,M0,NK,Nq,OI,hz,OD,O0,hlen,LR,l1,l2,Nv,hc⟩;cases OD with
   |nil=>rw [List.zip_nil_left] at hz; cases hz
   |@cons v1 vs1 x1 xs1 a1 as1 rv OX=>
    cases O0 with
    |nil=>rw [List.zip_nil_right] at hz; cases hz
    |@cons w1 ws1 y1 ys1 b1 bs1 rw1 OH=>
     rw [List.zip_cons_cons] at hz
     injection hz with hyx Nm
     injection hyx with hy hx
     subst hy hx;unfold PyData.canLayAll0 at l1 l2;rw [Bool.and_eq_true] at l1 l2;unfold cL at hc;have Oy:PyData.depthAll (x1::xs1)=max x1.depth (PyData.depthAll xs1):=by rw [PyData.depthAll]
     rw [Oy] at Nv;simp only [List.length_cons] at hlen;have he:=eqAt_reads x1 y1 A.in1 ⟨hp,g,d,tk,os⟩ _ _ _ _ rv rw1 l1.1 l2.1 (by show A.units+1+_<cLine; lia);refine K3 (he prog w _ _ ?_);cases e:PyData.eqv x1 y1 with
     |true=>
      rw [e,if_pos rfl] at hc
      wp_walk
      exact ⟨rfl,rfl,_,_,_,_,_,_,Nm,OX,OH,0x1,fun z hz=>LR z (KS _ hz),l1.2,l2.2,0x1,hc⟩
     |false=>
      rw [e,if_neg Bool.false_ne_true] at hc;have hri:∀(E:Value->Shared->Prop) (Q:Value->Shared->Prop),Q (.bool k) ⟨hp,g,d,tk,os⟩->wpAny (model prog w) A.in1 (richCompare .LtE _ _) Q E ⟨hp,g,d,tk,os⟩:=ih A.in1 ⟨hp,g,d,tk,os⟩ x1 y1 _ _ _ _ k (LR x1 KU) rv rw1 l1.1 l2.1 (by show A.units+1+_<cLine; lia) hc prog w
      wp_walk using hri
      exact ⟨_,rfl,by simpa using h⟩
  case fin=>
   rintro ⟨b1,b2⟩ s' ⟨Mv,rfl,vs,ws,M0,NK,Nq,OI,hz,OD,O0,hlen,LR,l1,l2,Nv,hc⟩;simp only at Mv;subst Mv;have hv:=vQ OD O0 hz.symm hc;simp only [Bool.false_eq_true,if_false] at hv;have hv2:decide (vs.length<=ws.length)=decide (items.size<=LO.size):=by
    by_cases q:vs.length<=ws.length
    ·rw [Ls q,Ls 0x1]
    ·rw [Lr q,Lr 0x1]
   rw [hv2] at hv;rw [hv] at h
   wp_walk
   exact ⟨_,rfl,by simpa [Builtin.Tuple.tupleCompareSizes] using h⟩
  case h=>
   exact ⟨rfl,rfl,items.toList,LO.toList,xs,ys,as,bs,rfl,hi,hj,by simp; lia,fun _ hx=>hx,c1,c2,K2 _,hk⟩
end
theorem mT:∀(n:Nat) (st:Bool) (da db:PyData) (A:Around) (s:Shared) (a b:Value) (as bs:List Addr) (k:Bool),sizeOf da<n->Reads s.heap a da as->Reads s.heap b db bs->da.canLay0=true->db.canLay0=true ->
  A.units+da.depth<cLine->cD st da db=some k->Ju A s st a b k
 |0,_,_,_,_,_,_,_,_,_,_,h,_,_,_,_,_,_=>absurd h (Nat.not_lt_zero _)
 |n+1,st,da,db,A,s,a,b,as,bs,k,hn,ra,rb,ha,hb,hu,hk=>by
  intro prog w E Q hQ;cases ra with
  |none=>cases db <;> simp [cD] at hk
  |bool x=>cases db <;> simp [cD] at hk
  |list _ _ _ _=>cases db <;> simp [cD] at hk
  |dict _ _ _ _ _=>cases db <;> simp [cD] at hk
  |int i t=>
   cases rb with
   |int j u=>
    simp only [cD] at hk;cases hk;cases st with
    |true=>exact (PyProof.Rows.lt_int hQ:wpAny (model prog w) A (compareOp .Lt (.int i t) (.int j u)) Q E s)
    |false=>exact (PyProof.Rows.le_int hQ:wpAny (model prog w) A (compareOp .LtE (.int i t) (.int j u)) Q E s)
   |_=>simp [cD] at hk
  |str x t=>
   cases rb with
   |str y u=>
    simp only [cD] at hk;cases hk;cases st with
    |true=>exact (PySem.P.lt_str hQ:wpAny (model prog w) A (compareOp .Lt (.str x t) (.str y u)) Q E s)
    |false=>exact (PySem.P.le_str (by simpa [cS] using hQ):wpAny (model prog w) A (compareOp .LtE (.str x t) (.str y u)) Q E s)
   |_=>simp [cD] at hk
  |@tuple a o vs n1 xs as e1 c1 d1 l1=>
   cases rb with
   |@tuple b o2 ws n2 ys bs e2 c2 d2 l2=>
    simp only [cD] at hk;unfold PyData.canLay0 at ha hb;unfold PyData.depth at hu;obtain ⟨cls,dd,data,sl⟩:=o;obtain ⟨cls2,N9,data2,NF⟩:=o2;simp only at c1 d1 c2 d2;subst c1 d1 c2 d2;have ih:∀(A:Around) (s:Shared) (x y:PyData) (a c:Value) (as bs:List Addr) (j:Bool),x∈xs->Reads s.heap a x as->Reads s.heap c y bs->x.canLay0=true->y.canLay0=true->A.units+x.depth<cLine->cD st x y=some j->Ju A s st a c j:=
     fun A s x y a c as bs j hx r1 r2 k1 k2 hu' hj=>mT n st x y A s a c as bs j (by
      have:=List.sizeOf_lt_of_mem hx;simp only [PyData.tuple.sizeOf_spec] at hn;lia) r1 r2 k1 k2 hu' hj
    cases st with
    |true=>
     exact richCompare_meets_room (op:=.Lt) ⟨_,e1,rfl⟩ ⟨_,e2,rfl⟩ PySem.F.slot_tuple_lt PySem.F.entry_tuple_lt (PySem.F.args_tuple_lt_2 _ _) (qZ a b vs ws n1 n2 dd N9 sl NF xs ys k hk ih)
      ⟨e1,e2,⟨_,l1⟩,⟨_,l2⟩,ha,hb,0x1,show Value.bool k≠Value.notImplemented/\Q (.bool k) s from ⟨(fun x=>nomatch x),hQ⟩⟩ 0x1
    |false=>
     exact richCompare_meets_room (op:=.LtE) ⟨_,e1,rfl⟩ ⟨_,e2,rfl⟩ PySem.F.slot_tuple_le PySem.F.entry_tuple_le (PySem.F.args_tuple_le_2 _ _) (qN a b vs ws n1 n2 dd N9 sl NF xs ys k hk ih)
      ⟨e1,e2,⟨_,l1⟩,⟨_,l2⟩,ha,hb,0x1,show Value.bool k≠Value.notImplemented/\Q (.bool k) s from ⟨(fun x=>nomatch x),hQ⟩⟩ 0x1
   |_=>simp [cD] at hk
noncomputable def mR:DV->Option D
 |.d x=>some x
 |.own xs=>some (.list xs)
 |.new xs=>some (.list xs)
 |_=>none
@[simp] theorem r9 (x:D):mR (.d x)=some x:=rfl
@[simp] theorem sJ (xs:List D):mR (.own xs)=some (.list xs):=rfl
@[simp] theorem ti (xs:List D):mR (.new xs)=some (.list xs):=rfl
section
variable {X:Cx} {E:XK}
variable {vs:List V}
theorem qj {pins:List (Addr×Obj)} {σ:St} (I:Inv X pins σ H s) (q:H a=some (.lst vs)) (l:RpL Z H xs vs):∃as,Reads s.heap (.ref a) (.list xs) as:=by
 obtain ⟨B',rv,⟨o,n,e,c,_,dd⟩,_⟩:=I.list (eN.of q);obtain ⟨as,ra⟩:=RpL.reads I l rv;exact ⟨_,.list e c dd (by simpa using ra)⟩
theorem RE.reads {pins:List (Addr×Obj)} {σ:St} {O P:List Addr} {H₀ H:Hp} {s:Shared} {x:DV} {v:V} {u:Value} {d:D} (I:Inv X pins σ H s) (r:RE O P H₀ H x v) (ru:bJ v u) (h:mR x=some d):(∃as,Reads s.heap u d as)/\d.canLay0=true:=by
 cases x with
 |d y=>
  cases h;have r':Rp (P++O) H d v:=r;exact ⟨Rp.reads I r' ru,r'.lay⟩
 |ob C fs=>cases h
 |fz kvs=>cases h
 |ex q=>cases h
 |tpo p xs q=>cases h
 |nwt p xs q=>cases h
 |own xs=>
  cases h;obtain ⟨a,vs,rfl,hP,ha,hl⟩:=r;cases ru;exact ⟨qj I ha hl,by unfold PyData.canLay0; exact hl.lay⟩
 |new xs=>
  cases h;obtain ⟨a,vs,rfl,hn,ha,hl⟩:=r;cases ru;exact ⟨qj I ha hl,by unfold PyData.canLay0; exact hl.lay⟩
 |scr K ns=>cases h
noncomputable def gx (neg:Bool) (x y:DV):M DV:=match mR x,mR y with
 |some a,some b=>if a.depth<=60 then rt (.d (.bool (if neg=true then !PyData.eqv a b else PyData.eqv a b))) else none
 |_,_=>none
variable {y:DV}
theorem rG {neg:Bool} (e:gx neg x y=some r):∃a b,mR x=some a/\mR y=some b/\a.depth<=60/\r=.ok (.d (.bool (if neg=true then !PyData.eqv a b else PyData.eqv a b))):=by
 unfold gx at e;split at e
 ·rename_i a b h1 h2;split at e
  ·cases e; exact ⟨a,b,h1,h2,by assumption,rfl⟩
  ·cases e
 ·cases e
theorem i7 (hu:X.A.units+64<cLine):hJ X E (compareOp .Eq) (gx false):=fun pins s σ O P H₀ H x y v u vv uu r Q I hd hs rx ry ev eu e q=>by
 obtain ⟨a,b,h1,h2,Nv,rfl⟩:=rG e;obtain ⟨⟨as,ra⟩,la⟩:=rx.reads I ev h1;obtain ⟨⟨bs,rb⟩,lb⟩:=ry.reads I eu h2;exact SeqAt.compareEq_reads ra rb la lb (by have:=Nat.min_le_left a.depth b.depth; lia) ⟨.bl _,H,I,rfl,q _ H (aF.refl H) (.bool _)⟩
theorem yH (hu:X.A.units+64<cLine):hJ X E (compareOp .NotEq) (gx true):=fun pins s σ O P H₀ H x y v u vv uu r Q I hd hs rx ry ev eu e q=>by
 obtain ⟨a,b,h1,h2,Nv,rfl⟩:=rG e;obtain ⟨⟨as,ra⟩,la⟩:=rx.reads I ev h1;obtain ⟨⟨bs,rb⟩,lb⟩:=ry.reads I eu h2;exact SeqAt.compareNe_reads ra rb la lb (by have:=Nat.min_le_left a.depth b.depth; lia) ⟨.bl _,H,I,rfl,q _ H (aF.refl H) (.bool _)⟩
noncomputable def wy (neg:Bool) (x y:DV):M DV:=match mR x,mR y with
 |some a,some (.list ys)=>if a.depth<=60 then rt (.d (.bool (if neg=true then !ys.any (fun z=>PyData.eqv z a) else ys.any fun z=>PyData.eqv z a))) else none
 |some a,some (.tuple ys)=>if a.depth<=60 then rt (.d (.bool (if neg=true then !ys.any (fun z=>PyData.eqv z a) else ys.any fun z=>PyData.eqv z a))) else none
 |_,_=>none
theorem sm {neg:Bool} (e:wy neg x y=some r):∃a ys,mR x=some a/\(mR y=some (.list ys)\/mR y=some (.tuple ys))/\a.depth<=60/\r=.ok (.d (.bool (if neg=true then !ys.any (fun z=>PyData.eqv z a) else ys.any fun z=>PyData.eqv z a))):=by
 unfold wy at e;split at e
 ·rename_i a b h1 h2;split at e
  ·cases e; exact ⟨a,_,h1,.inl h2,by assumption,rfl⟩
  ·cases e
 ·rename_i a b h1 h2;split at e
  ·cases e; exact ⟨a,_,h1,.inr h2,by assumption,rfl⟩
  ·cases e
 ·cases e
theorem FC (hu:X.A.units+64<cLine):hJ X E (compareOp .In) (wy false):=fun pins s σ O P H₀ H x y v u vv uu r Q I hd hs rx ry ev eu e q=>by
 obtain ⟨a,ys,h1,h2,Nv,rfl⟩:=sm e;obtain ⟨⟨as,ra⟩,la⟩:=rx.reads I ev h1;rcases h2 with h2|h2
 ·obtain ⟨⟨bs,rb⟩,lb⟩:=ry.reads I eu h2;unfold PyData.canLay0 at lb;exact SeqAt.in_list_reads rb ra lb la (by have:=Nat.min_le_right (PyData.depthAll ys) a.depth; lia) ⟨.bl _,H,I,rfl,q _ H (aF.refl H) (.bool _)⟩
 ·obtain ⟨⟨bs,rb⟩,lb⟩:=ry.reads I eu h2;unfold PyData.canLay0 at lb;exact SeqAt.in_tuple_reads rb ra lb la (by have:=Nat.min_le_right (PyData.depthAll ys) a.depth; lia) ⟨.bl _,H,I,rfl,q _ H (aF.refl H) (.bool _)⟩
theorem AU (hu:X.A.units+64<cLine):hJ X E (compareOp .NotIn) (wy true):=fun pins s σ O P H₀ H x y v u vv uu r Q I hd hs rx ry ev eu e q=>by
 obtain ⟨a,ys,h1,h2,Nv,rfl⟩:=sm e;obtain ⟨⟨as,ra⟩,la⟩:=rx.reads I ev h1;rcases h2 with h2|h2
 ·obtain ⟨⟨bs,rb⟩,lb⟩:=ry.reads I eu h2;unfold PyData.canLay0 at lb;exact SeqAt.notIn_list_reads rb ra lb la (by have:=Nat.min_le_right (PyData.depthAll ys) a.depth; lia) ⟨.bl _,H,I,rfl,q _ H (aF.refl H) (.bool _)⟩
 ·obtain ⟨⟨bs,rb⟩,lb⟩:=ry.reads I eu h2;unfold PyData.canLay0 at lb;exact SeqAt.notIn_tuple_reads rb ra lb la (by have:=Nat.min_le_right (PyData.depthAll ys) a.depth; lia) ⟨.bl _,H,I,rfl,q _ H (aF.refl H) (.bool _)⟩
noncomputable def gC (st:Bool) (x y:DV):M DV:=match x,y with
 |.d a,.d b=>if a.depth<=60 then bd (op (cD st a b)) fun k=>rt (.d (.bool k)) else none
 |_,_=>none
theorem Cu (st:Bool) (hu:X.A.units+64<cLine):hJ X E (compareOp (Kq st)) (gC st):=fun pins s σ O P H₀ H x y v u vv uu r Q I hd hs rx ry ev eu e q=>by
 unfold gC at e;split at e
 ·rename_i a b;split at e
  ·rename_i Nv;cases hk:cD st a b with
   |none=>rw [hk] at e; cases e
   |some k=>
    rw [hk] at e;cases e;obtain ⟨⟨as,ra⟩,la⟩:=rx.reads I ev (d:=a) rfl;obtain ⟨⟨bs,rb⟩,lb⟩:=ry.reads I eu (d:=b) rfl;have h:=mT _ st a b X.A s vv uu as bs k (Nat.lt_succ_self _) ra rb la lb 0x1 hk X.prog X.w X.xe (EP X pins σ Q) ⟨.bl _,H,I,rfl,q _ H (aF.refl H) (.bool _)⟩;cases st with
    |true=>exact h
    |false=>exact h
  ·cases e
 ·cases e
theorem GY (hu:X.A.units+64<cLine):hJ X E (compareOp .Lt) (gC true):=Cu true hu
theorem G9 (hu:X.A.units+64<cLine):hJ X E (compareOp .LtE) (gC false):=Cu false hu
noncomputable def B1 (x y:DV):M DV:=match k7 x,k7 y with
 |some xs,some ys=>if xs.length+ys.length<=1000000 then rt (.new (xs++ys)) else none
 |_,_=>none
theorem line_big (h:n<=1000000):n<=sizeLine:=Lp h (by rw [sizeLine_eq]; decide)
variable {p:Addr}
theorem DH (hd:∀a,a∈P++O->∃o,H₀ a=some o) (hs:aF H₀ H) (hp:H p=none):p∉P++O:=fun h=>by
 obtain ⟨o,e⟩:=hd p h;rw [hs p o e] at hp; cases hp
theorem bw {o:HO} (hp:H p=none):aF H (bX H p o):=fun b u e=>by rw [aG (bN e hp)]; exact e
theorem HI {o:HO} (hp:H p=none):Kp Z H (p::Z) (bX H p o):=⟨fun a u _ e=>bw hp a u e,fun a ha=>by
 rcases Lc.mp ha with e|e
 ·subst e; exact .inr hp
 ·exact .inl e⟩
theorem RE.made (hs:aF H₀ H) (hp:H p=none) (l:RpL (P++O) H xs vs):RE O P H₀ (bX H p (.lst vs)) (.new xs) (.ref p):=
 ⟨p,vs,rfl,hs.free hp,aW,l.kp (HI hp)⟩
theorem AH (hd:∀a,a∈P++O->∃o,H₀ a=some o) (hs:aF H₀ H) (hp:H p=none) (l:RpL (P++O) H xs vs):RE O P H₀ (bX H p (.tup vs)) (.d (.tuple xs)) (.ref p):=
 .tup (DH hd hs hp) aW (l.kp (.same (bw hp)))
theorem wL (e:B1 x y=some r):∃xs ys,k7 x=some xs/\k7 y=some ys/\xs.length+ys.length<=1000000/\r=.ok (.new (xs++ys)):=by
 unfold B1 at e;split at e
 ·rename_i xs ys h1 h2;split at e
  ·cases e; exact ⟨xs,ys,h1,h2,by assumption,rfl⟩
  ·cases e
 ·cases e
theorem Gv:hJ X E (binaryOp .Add) B1:=hJ.rule GS fun O P H₀ H x y v u r Q hd hs rx ry e q=>by
 obtain ⟨xs,ys,h1,h2,hz,rfl⟩:=wL e;obtain ⟨a,vs,rfl,ha,la⟩:=rx.list h1;obtain ⟨b,us,rfl,hb,lb⟩:=ry.list h2;exact ⟨a,b,vs,us,rfl,rfl,ha,hb,line_big (by rw [<-la.length,<-lb.length]; exact hz),fun p hp=>q _ _ (bw hp) (RE.made hs hp (la.append lb))⟩
noncomputable def F8 (x y:DV):M DV:=match k7 x,y with
 |some xs,.d (.int k)=>if xs.length*k.toNat<=1000000/\-(2 ^ 63)<=k/\k<2 ^ 63 then rt (.new (List.replicate k.toNat xs).flatten) else none
 |_,_=>none
theorem G6:hJ X E (binaryOp .Mult) F8:=hJ.rule Ha fun O P H₀ H x y v u r Q hd hs rx ry e q=>by
 unfold F8 at e;split at e
 ·rename_i xs k h1;split at e
  ·rename_i hz;cases e;obtain ⟨a,vs,rfl,ha,la⟩:=rx.list h1;cases ry;exact ⟨a,k,vs,rfl,rfl,ha,hz.2.1,hz.2.2,line_big (by rw [<-la.length]; exact hz.1),fun p hp=>q _ _ (bw hp) (RE.made hs hp (la.rep _))⟩
  ·cases e
 ·cases e
noncomputable def Di (g g':DV->DV->M DV) (x y:DV):M DV:=match g x y with
 |none=>g' x y
 |some r=>some r
theorem hJ.or {f:Value->Value->Sem Value} {g g':DV->DV->M DV} (h:hJ X E f g) (h':hJ X E f g'):hJ X E f (Di g g'):=fun pins s σ O P H₀ H x y v u vv uu r Q I hd hs rx ry ev eu e q=>by
 unfold Di at e;cases hg:g x y with
 |none=>rw [hg] at e; exact h' pins s σ O P H₀ H x y v u vv uu r Q I hd hs rx ry ev eu e q
 |some r'=>rw [hg] at e; cases e; exact h pins s σ O P H₀ H x y v u vv uu r Q I hd hs rx ry ev eu hg q
end
theorem Bb {γ:Type} (m:M α) (f:α->M β) (g:β->M γ):bd (bd m f) g=bd m fun a=>bd (f a) g:=by
 cases m with
 |none=>rfl
 |some z=>cases z <;> rfl
noncomputable def bD:DV->M Bool
 |.d (.bool b)=>rt b
 |_=>none
@[simp] theorem yB (b:Bool):bD (.d (.bool b))=rt b:=rfl
theorem nC {r:Except Value Bool} (h:bD x=some r):∃b,x=.d (.bool b)/\r=.ok b:=by
 unfold bD at h;split at h
 ·rename_i b;cases h; exact ⟨b,rfl,rfl⟩
 ·cases h
section
variable {X:Cx} {E:XK} {a b c e:Expr} {pos:Pos} {fa fb fc f:DS->M DV} {ga gb:DS->M Bool}
theorem tG {r:Except Value Bool} {Q:Bool->Hp->Prop} (rx:RE O P H₀ H x v) (h:bD x=some r) (q:Dp E H Q r):∃k,v=.bl k/\Q k H:=by
 obtain ⟨k,rfl,rfl⟩:=nC h;cases rx;exact ⟨k,rfl,q H (aF.refl H)⟩
theorem gG (h:PX X E e f) (he:∀whole,isTrue e X.env whole=(do let v <-whole; standAt e.pos; holding [v] (truthy v)):=by intro _; rfl):PB X E e (fun δ=>bd (f δ) bD):=
 PT.mono (F7 h he) fun σ H Q q=>tU (g:=fun _=>bD) q fun O P δ x r v H1 rs LC s1 rx e' q'=>tG rx e' q'
variable {g:DV->DV->M DV} {σ:St}
theorem KJ {Q:Bool->Hp->Prop} (h:zm E (fun δ=>bd (e2 g fa fb δ) bD) σ H Q) {t:V->V->Hp->Prop}
  (k:∀O P x y r v u H1,(∀a,a∈P++O->∃o,H a=some o)->aF H H1->RE O P H H1 x v->RE O P H H1 y u->bd (g x y) bD=some r->Dp E H1 Q r->t v u H1) :
  tE E fa σ H fun v H1=>tE E fb σ H1 fun u H2=>t v u H2:=by
 have h':zm E (fun δ=>bd (fa δ) fun x=>bd (bd (fb δ) fun y=>g x y) bD) σ H Q:=by
  obtain ⟨O,P,δ,r,rs,e,q⟩:=h;exact ⟨O,P,δ,r,rs,(Bb _ _ _).symm.trans e,q⟩
 refine tU (g:=fun δ x=>bd (bd (fb δ) fun y=>g x y) bD) h' fun O P δ x r v H1 rs LC s1 rx e q=>?_;rcases az e with ⟨z,e1,e2⟩|⟨c,e1,e2⟩
 ·rcases az e1 with ⟨y,e3,e4⟩|⟨c,e3,e4⟩
  ·exact ⟨O,P,δ,.ok y,LC,e3,fun u H2 s2 ry=>k O P x y r v u H2 rs.dom (s1.trans s2) (rx.on s2) (ry.from s1) (by rw [e4]; exact e2) (q.on s2)⟩
  ·cases e4
 ·rcases az e1 with ⟨y,e3,e4⟩|⟨c',e3,e4⟩
  ·exact ⟨O,P,δ,.ok y,LC,e3,fun u H2 s2 ry=>k O P x y r v u H2 rs.dom (s1.trans s2) (rx.on s2) (ry.from s1) (by rw [e4]; subst e2; rfl) (q.on s2)⟩
  ·cases e4;subst e2;exact ⟨O,P,δ,.error c,LC,e3,q⟩
theorem hJ.test {o:Value->Value->Sem Value} (ho:hJ X E o g) {pins:List (Addr×Obj)} {y:DV} {u:V} {vv uu:Value} {r:Except Value Bool} {Q:Bool->Hp->Prop}
  (I:Inv X pins σ H s) (hd:∀a,a∈P++O->∃o,H₀ a=some o) (hs:aF H₀ H) (rx:RE O P H₀ H x v) (ry:RE O P H₀ H y u) (ev:bJ v vv) (eu:bJ u uu) (e:bd (g x y) bD=some r) (q:Dp E H Q r) :
  wpAny (model X.prog X.w) X.A (o vv uu) (EP X pins σ fun z H2=>∃k,z=.bl k/\Q k H2) X.xe s:=by
 rcases az e with ⟨z,e1,e2⟩|⟨c,e1,e2⟩
 ·refine ho pins s σ O P H₀ H x y v u vv uu (.ok z) _ I hd hs rx ry ev eu e1 fun w H2 s2 rz=>tG rz e2 (q.on s2)
 ·subst e2;exact ho pins s σ O P H₀ H x y v u vv uu (.error c) _ I hd hs rx ry ev eu e1 q
theorem bx {o:CmpOp} (ho:hJ X E (compareOp o) g) (ha:PX X E a fa) (hb:PX X E b fb) (hm:behindInMarks o b=false:=by first|exact AJ _|rfl):PB X E (.Compare a [o] [b] pos) (fun δ=>bd (e2 g fa fb δ) bD):=by
 intro pins s σ H Q I h;refine wpAny_isTrue_Compare1 (JD ha hb I (KJ h (t:=fun v u H1=>∃O P x y r,(∀a,a∈P++O->∃o,H a=some o)/\aF H H1/\RE O P H H1 x v/\RE O P H H1 y u/\bd (g x y) bD=some r/\Dp E H1 Q r) fun O P x y r v u H1 h1 h2 h3 h4 h5 h6=>⟨O,P,x,y,r,h1,h2,h3,h4,h5,h6⟩)
  fun vv uu s2 v u H2 I2 rv ru ⟨O,P,x,y,r,h1,h2,h3,h4,h5,h6⟩=>cG (ho.test I2 h1 h2 h3 h4 rv ru h5 h6) fun d s3 ⟨z,H3,I3,r3,k,ez,q3⟩=>?_) hm
 subst ez;cases r3;exact wpAny_truthy_bool ⟨H3,I3,q3⟩
noncomputable def Az (g g':DV->DV->M DV) (fa fb fc:DS->M DV) (δ:DS):M DV:=bd (fa δ) fun x=>bd (fb δ) fun y=>bd (bd (g x y) bD) fun k=>if k=true then bd (fc δ) fun z=>g' y z else rt (.d (.bool false))
variable {g':DV->DV->M DV}
theorem t3 (h:tE E (Az g g' fa fb fc) σ H Q) {t:V->V->Hp->Prop}
  (k:∀O P δ x y r v u H1,RS O P H σ δ->RS O P H1 σ δ->aF H H1->RE O P H H1 x v->RE O P H H1 y u->(bd (bd (g x y) bD) fun k=>if k=true then bd (fc δ) fun z=>g' y z else rt (.d (.bool false)))=some r->Fn E O P H H1 Q r->t v u H1) :
  tE E fa σ H fun v H1=>tE E fb σ H1 fun u H2=>t v u H2:=by
 refine kR (g:=fun δ x=>bd (fb δ) fun y=>bd (bd (g x y) bD) fun k=>if k=true then bd (fc δ) fun z=>g' y z else rt (.d (.bool false))) h fun O P δ x r v H1 rs LC s1 rx e q=>?_;rcases az e with ⟨y,e1,e2⟩|⟨c,e1,e2⟩
 ·exact ⟨O,P,δ,.ok y,LC,e1,fun u H2 s2 ry=>k O P δ x y r v u H2 rs (LC.same s2) (s1.trans s2) (rx.on s2) (ry.from s1) e2 (q.on s2)⟩
 ·subst e2;exact ⟨O,P,δ,.error c,LC,e1,q⟩
theorem vF {o o':CmpOp} (ho:hJ X E (compareOp o) g) (NC:hJ X E (compareOp o') g') (ha:PX X E a fa) (hb:PX X E b fb) (hc:PX X E c fc)
  (hm:lastMarks [o,o'] [b,c]=false:=by with_unfolding_all rfl):PX X E (.Compare a [o,o'] [b,c] pos) (Az g g' fa fb fc):=by
 intro pins s σ H Q I h;refine Compare_chain (cG (ha pins s σ H _ I (t3 h (t:=fun v u H1=>∃O P δ x y r,RS O P H σ δ/\RS O P H1 σ δ/\aF H H1/\RE O P H H1 x v/\RE O P H H1 y u/\(bd (bd (g x y) bD) fun k=>if k=true then bd (fc δ) fun z=>g' y z else rt (.d (.bool false)))=some r/\Fn E O P H H1 Q r)
  fun O P δ x y r v u H1 h1 h2 h3 h4 h5 h6 h7=>⟨O,P,δ,x,y,r,h1,h2,h3,h4,h5,h6,h7⟩)) fun vv s1 ⟨v,H1,I1,r1,q1⟩=>chain_link (cG (hb pins s1 σ H1 _ I1 q1) fun uu s2 ⟨u,H2,I2,r2,q2⟩=>?_)) hm
 obtain ⟨O,P,δ,x,y,r,h1,h2,h3,h4,h5,h6,h7⟩:=q2;rcases az h6 with ⟨k,e1,e2⟩|⟨cx,e1,e2⟩
 ·refine cG (ho.test (Q:=fun k' H3=>k'=k/\aF H2 H3) I2 h1.dom h3 h4 h5 r1 r2 e1 fun H3 s3=>⟨rfl,s3⟩) fun d s3 ⟨z,H3,I3,r3,k',ez,ek,Mx⟩=>?_;subst ez ek;cases r3;refine wpAny_truthy_bool ?_;cases k' with
  |false=>
   cases e2;exact ite_ff ⟨.bl false,H3,I3,rfl,h7 _ H3 Mx (.bool false)⟩
  |true=>
   simp only [if_true] at e2;refine ite_tt (chain_last (cG (hc pins s3 σ H3 (fun w' H4=>∃zz,RE O P H H4 zz w'/\aF H3 H4/\g' y zz=some r) I3 ?_) fun ww s4 ⟨w',H4,I4,r4,zz,q4,ON,e4⟩=>?_))
   ·rcases az e2 with ⟨zz,e3,e4⟩|⟨cc,e3,e4⟩
    ·exact ⟨O,P,δ,.ok zz,h2.same Mx,e3,fun w' H4 s4 rz=>⟨zz,rz.from (h3.trans Mx),s4,e4⟩⟩
    ·subst e4;exact ⟨O,P,δ,.error cc,h2.same Mx,e3,h7.on Mx⟩
   ·exact NC pins s4 σ O P H H4 y zz u w' uu ww r Q I4 h1.dom (h3.trans (Mx.trans ON)) (h5.on (Mx.trans ON)) q4 r2 r4 e4 (h7.on (Mx.trans ON))
 ·subst e2;exact cG (ho.test (Q:=fun _ _=>False) I2 h1.dom h3 h4 h5 r1 r2 e1 h7) fun d s3 ⟨z,H3,I3,r3,k',ez,q3⟩=>q3.elim
theorem o6 {o o':CmpOp} (ho:hJ X E (compareOp o) g) (NC:hJ X E (compareOp o') g') (ha:PX X E a fa) (hb:PX X E b fb) (hc:PX X E c fc)
  (hm:lastMarks [o,o'] [b,c]=false:=by with_unfolding_all rfl):PB X E (.Compare a [o,o'] [b,c] pos) (fun δ=>bd (Az g g' fa fb fc δ) bD):=by
 intro pins s σ H Q I h;have h':tE E (Az g g' fa fb fc) σ H (fun z H'=>∃k,z=.bl k/\Q k H'):=tU (g:=fun _=>bD) h fun O P δ x r v H1 rs LC s1 rx e' q'=>tG rx e' q';refine isTrue_chain (cG (ha pins s σ H _ I (t3 h' (t:=fun v u H1=>∃O P δ x y r,RS O P H σ δ/\RS O P H1 σ δ/\aF H H1/\RE O P H H1 x v/\RE O P H H1 y u/\(bd (bd (g x y) bD) fun k=>if k=true then bd (fc δ) fun z=>g' y z else rt (.d (.bool false)))=some r/\Fn E O P H H1 (fun z H'=>∃k,z=.bl k/\Q k H') r)
  fun O P δ x y r v u H1 h1 h2 h3 h4 h5 h6 h7=>⟨O,P,δ,x,y,r,h1,h2,h3,h4,h5,h6,h7⟩)) fun vv s1 ⟨v,H1,I1,r1,q1⟩=>test_link (cG (hb pins s1 σ H1 _ I1 q1) fun uu s2 ⟨u,H2,I2,r2,q2⟩=>?_)) hm
 obtain ⟨O,P,δ,x,y,r,h1,h2,h3,h4,h5,h6,h7⟩:=q2;rcases az h6 with ⟨k,e1,e2⟩|⟨cx,e1,e2⟩
 ·refine cG (ho.test (Q:=fun k' H3=>k'=k/\aF H2 H3) I2 h1.dom h3 h4 h5 r1 r2 e1 fun H3 s3=>⟨rfl,s3⟩) fun d s3 ⟨z,H3,I3,r3,k',ez,ek,Mx⟩=>?_;subst ez ek;cases r3;refine wpAny_truthy_bool ?_;cases k' with
  |false=>
   cases e2;obtain ⟨k2,ek2,q7⟩:=h7 _ H3 Mx (Rp.bool false);cases ek2;exact ite_ff ⟨H3,I3,q7⟩
  |true=>
   simp only [if_true] at e2;refine ite_tt (test_last (cG (hc pins s3 σ H3 (fun w' H4=>∃zz,RE O P H H4 zz w'/\aF H3 H4/\g' y zz=some r) I3 ?_) fun ww s4 ⟨w',H4,I4,r4,zz,q4,ON,e4⟩=>?_))
   ·rcases az e2 with ⟨zz,e3,e4⟩|⟨cc,e3,e4⟩
    ·exact ⟨O,P,δ,.ok zz,h2.same Mx,e3,fun w' H4 s4 rz=>⟨zz,rz.from (h3.trans Mx),s4,e4⟩⟩
    ·subst e4;exact ⟨O,P,δ,.error cc,h2.same Mx,e3,h7.on Mx⟩
   ·refine cG (NC pins s4 σ O P H H4 y zz u w' uu ww r _ I4 h1.dom (h3.trans (Mx.trans ON)) (h5.on (Mx.trans ON)) q4 r2 r4 e4 (h7.on (Mx.trans ON))) fun d' s5 ⟨z2,H5,I5,r5,k2,ek2,q5⟩=>?_;subst ek2;cases r5;exact wpAny_truthy_bool ⟨H5,I5,q5⟩
 ·subst e2;exact cG (ho.test (Q:=fun _ _=>False) I2 h1.dom h3 h4 h5 r1 r2 e1 h7) fun d s3 ⟨z,H3,I3,r3,k',ez,q3⟩=>q3.elim
def wo (X:Cx) (E:XK) (e:Expr) (f:DS->M Bool):Prop:=PW X e (zm E f)
theorem wo.pb (h:wo X E e ga):PB X E e ga:=PW.pt h
noncomputable def jJ (ga gb:DS->M Bool) (δ:DS):M Bool:=bd (ga δ) fun k=>if k=true then gb δ else rt false
noncomputable def uL (ga gb:DS->M Bool) (δ:DS):M Bool:=bd (ga δ) fun k=>if k=true then rt true else gb δ
noncomputable def gw (ga:DS->M Bool) (δ:DS):M Bool:=bd (ga δ) fun k=>rt (!k)
theorem PW.mono {t t':TT} (h:PW X e t) (m:∀σ H Q,t' σ H Q->t σ H Q):PW X e t':=fun wh pins s σ H Q I q=>h wh pins s σ H Q I (m σ H Q q)
variable {cF:List Expr}
theorem uA (h:PB X E a ga):wo X E (.BoolOp .And [a] pos) ga:=EY h
theorem qg (h:PB X E a ga):wo X E (.BoolOp .Or [a] pos) ga:=GL h
theorem xk (ha:PB X E a ga) (hb:wo X E (.BoolOp .And (b::cF) pos) gb):wo X E (.BoolOp .And (a::b::cF) pos) (jJ ga gb):=
 PW.mono (Gu ha hb) fun σ H Q q=>wx (g:=fun δ k=>if k=true then gb δ else rt false) q fun O P δ k r H1 rs LC s1 e q=>by
  cases k with
  |true=>exact ⟨O,P,δ,r,LC,e,q⟩
  |false=>cases e; exact q H1 (aF.refl H1)
theorem rH (ha:PB X E a ga) (hb:wo X E (.BoolOp .Or (b::cF) pos) gb):wo X E (.BoolOp .Or (a::b::cF) pos) (uL ga gb):=
 PW.mono (Ji ha hb) fun σ H Q q=>wx (g:=fun δ k=>if k=true then rt true else gb δ) q fun O P δ k r H1 rs LC s1 e q=>by
  cases k with
  |false=>exact ⟨O,P,δ,r,LC,e,q⟩
  |true=>cases e; exact q H1 (aF.refl H1)
theorem gf (ha:PB X E a ga):PB X E (.UnaryOp .Not a pos) (gw ga):=
 PT.mono (Ho ha) fun σ H Q q=>wx (g:=fun δ k=>rt (!k)) q fun O P δ k r H1 rs LC s1 e q=>by
  cases e; exact q H1 (aF.refl H1)
noncomputable def m6 (fa fb:DS->M DV) (δ:DS):M DV:=bd (bd (fa δ) bD) fun k=>if k=true then fb δ else rt (.d (.bool false))
noncomputable def JG (fa fb:DS->M DV) (δ:DS):M DV:=bd (bd (fa δ) bD) fun k=>if k=true then rt (.d (.bool true)) else fb δ
noncomputable def Hn (fa:DS->M DV) (δ:DS):M DV:=bd (bd (fa δ) bD) fun k=>rt (.d (.bool (!k)))
theorem t1 {g:DS->Bool->M DV} (h:tE E (fun δ=>bd (bd (fa δ) bD) (g δ)) σ H Q) {t:VK}
  (k:∀O P δ k r H1,RS O P H1 σ δ->aF H H1->g δ k=some r->Fn E O P H H1 Q r->t (.bl k) H1):tE E fa σ H t:=by
 obtain ⟨O,P,δ,r,rs,e,q⟩:=h;rcases az e with ⟨z,e1,e2⟩|⟨c,e1,e2⟩
 ·rcases az e1 with ⟨x,e3,e4⟩|⟨c,e3,e4⟩
  ·refine ⟨O,P,δ,.ok x,rs,e3,fun v H1 s1 rx=>?_⟩;obtain ⟨kk,rfl,ek⟩:=nC e4;cases ek;cases rx;exact k O P δ _ r H1 (rs.same s1) s1 e2 (q.on s1)
  ·cases e4
 ·subst e2;rcases az e1 with ⟨x,e3,e4⟩|⟨c',e3,e4⟩
  ·obtain ⟨kk,_,ek⟩:=nC e4;cases ek
  ·cases e4;exact ⟨O,P,δ,.error c,rs,e3,q⟩
theorem qw {o:BoolOp} (h:PX X E a fa):PX X E (.BoolOp o [a] pos) fa:=Hh h
theorem Eg (s1:aF H H1) (q:Fn E O P H H1 Q r):Fn E O P H1 H1 Q r:=by
 cases r with
 |ok x=>exact fun v H' s' rx=>q v H' s' (rx.from s1)
 |error c=>exact q
theorem nB (ha:PX X E a fa) (hb:PX X E (.BoolOp .And (b::cF) pos) fb):PX X E (.BoolOp .And (a::b::cF) pos) (m6 fa fb):=
 PE.mono (HG ha hb) fun σ H Q q=>t1 (g:=fun δ k=>if k=true then fb δ else rt (.d (.bool false))) q fun O P δ k r H1 LC s1 e q=>by
  refine ⟨k,rfl,?_⟩;cases k with
  |true=>exact z5 ⟨O,P,δ,r,LC,e,Eg s1 q⟩
  |false=>cases e; exact Ac (q _ H1 (aF.refl H1) (.bool false))
end
section
variable {X:Cx} {E:XK} {a b c e o:Expr} {es:List Expr} {pos p:Pos} {fa fb fc f:DS->M DV} {fr:DS->M (List DV)}
theorem lU.from {O P:List Addr} {H H1 H2:Hp} {xs:List DV} {vs:List V} (r:lU O P H1 H2 xs vs) (h:aF H H1):lU O P H H2 xs vs:=Paired.mapP r fun _ _ q=>RE.from q h
noncomputable def ai (_:DS):M (List DV):=rt []
noncomputable def aa (fa:DS->M DV) (fr:DS->M (List DV)) (δ:DS):M (List DV):=bd (fa δ) fun x=>bd (fr δ) fun xs=>rt (x::xs)
theorem ah:vg X E [] ai:=PA.mono lP fun σ H Q q=>by
 obtain ⟨O,P,δ,r,rs,e,q⟩:=q;cases e;exact q [] H (aF.refl H) .nil
theorem ae (ha:PX X E e fa) (hr:vg X E es fr) (hs:starEach (e::es) X.env=(false,eval e X.env)::starEach es X.env:=by rfl):vg X E (e::es) (aa fa fr):=PA.mono (kG ha hr hs) fun σ H Q q=>by
 obtain ⟨O,P,δ,r,rs,e,q⟩:=q;rcases az e with ⟨x,e1,e2⟩|⟨c,e1,e2⟩
 ·refine ⟨O,P,δ,.ok x,rs,e1,fun v H1 s1 rx=>?_⟩;rcases az e2 with ⟨xs,e3,e4⟩|⟨c,e3,e4⟩
  ·cases e4;exact ⟨O,P,δ,.ok xs,rs.same s1,e3,fun vs H2 s2 rxs=>q _ H2 (s1.trans s2) (.cons (rx.on s2) (rxs.from s1))⟩
  ·subst e4;exact ⟨O,P,δ,.error c,rs.same s1,e3,fun dx H' s'=>q dx H' (s1.trans s')⟩
 ·subst e2;exact ⟨O,P,δ,.error c,rs,e1,q⟩
noncomputable def d3:List DV->Option (List D)
 |[]=>some []
 |x::r=>match v9 x,d3 r with
  |some d,some ds=>some (d::ds)
  |_,_=>none
@[simp] theorem mW:d3 []=some []:=rfl
theorem lO (x:DV) (r:List DV):d3 (x::r)=match v9 x,d3 r with|some d,some ds=>some (d::ds)|_,_=>none:=rfl
@[simp] theorem sR (x:D) (r:List DV):d3 (.d x::r)=(d3 r).map (x::·):=by
 rw [lO,zh];cases d3 r <;> rfl
@[simp] theorem m5 (xs:List D) (r:List DV):d3 (.new xs::r)=(d3 r).map (.list xs::·):=by
 rw [lO,oH];cases d3 r <;> rfl
theorem lU.data {O P:List Addr} {H H':Hp} (dom:∀a,a∈P++O->∃o,H a=some o):∀{xs:List DV} {vs:List V} {ds:List D},lU O P H H' xs vs->d3 xs=some ds->RpL (P++O) H' ds vs
 |_,_,_,.nil,h=>by cases h; exact .nil
 |_,_,_,.cons r t,h=>by
  rw [lO] at h;split at h
  ·rename_i d ds h1 h2;cases h;exact .cons (r.data dom h1) (lU.data dom t h2)
  ·cases h
noncomputable def aZ (fr:DS->M (List DV)) (δ:DS):M DV:=bd (fr δ) fun xs=>bd (op (d3 xs)) fun ds=>if ds.length<=1000000 then rt (.d (.tuple ds)) else none
noncomputable def bV (fr:DS->M (List DV)) (δ:DS):M DV:=bd (fr δ) fun xs=>bd (op (d3 xs)) fun ds=>if ds.length<=1000000 then rt (.new ds) else none
theorem nP {g:DS->List DV->M DV} {σ:St} {t:List V->Hp->Prop} (h:tE E (fun δ=>bd (fr δ) (g δ)) σ H Q)
  (k:∀O P δ xs r vs H1,RS O P H σ δ->RS O P H1 σ δ->aF H H1->lU O P H H1 xs vs->g δ xs=some r->Fn E O P H H1 Q r->t vs H1):JZ E fr σ H t:=by
 obtain ⟨O,P,δ,r,rs,e,q⟩:=h;rcases az e with ⟨x,e1,e2⟩|⟨c,e1,e2⟩
 ·exact ⟨O,P,δ,.ok x,rs,e1,fun v H1 s1 re=>k O P δ x r v H1 rs (rs.same s1) s1 re e2 (q.on s1)⟩
 ·subst e2;exact ⟨O,P,δ,.error c,rs,e1,q⟩
theorem rk {xs:List DV} {h:List D->M DV} (e:bd (op (d3 xs)) h=some r):∃ds,d3 xs=some ds/\h ds=some r:=by
 cases hd:d3 xs with
 |none=>rw [hd] at e; cases e
 |some ds=>rw [hd] at e; exact ⟨ds,rfl,e⟩
theorem bL {k:Nat} (h:vg X E es fr):PX X E (.Tuple es k pos) (aZ fr):=PE.mono (Cy h) fun σ H Q q=>nP (g:=fun _ xs=>bd (op (d3 xs)) fun ds=>if ds.length<=1000000 then rt (.d (.tuple ds)) else none) q fun O P δ xs r vs H1 rs LC s1 rx e q=>by
 obtain ⟨ds,hd,e⟩:=rk e;split at e
 ·rename_i hz;cases e;have l:=lU.data rs.dom rx hd;exact ⟨line_big (by rw [<-l.length]; exact hz),fun p hp=>q _ _ (bw hp) (AH rs.dom s1 hp l)⟩
 ·cases e
theorem b8 (h:vg X E es fr):PX X E (.List es pos) (bV fr):=PE.mono (AY h) fun σ H Q q=>nP (g:=fun _ xs=>bd (op (d3 xs)) fun ds=>if ds.length<=1000000 then rt (.new ds) else none) q fun O P δ xs r vs H1 rs LC s1 rx e q=>by
 obtain ⟨ds,hd,e⟩:=rk e;split at e
 ·rename_i hz;cases e;have l:=lU.data rs.dom rx hd;exact ⟨line_big (by rw [<-l.length]; exact hz),fun p hp=>q _ _ (bw hp) (RE.made s1 hp l)⟩
 ·cases e
noncomputable def cb (x y:DV):M DV:=match x,y with
 |.d (.tuple xs),.d (.int i)=>bd (op (atI xs i)) fun z=>rt (.d z)
 |.d (.list xs),.d (.int i)=>bd (op (atI xs i)) fun z=>rt (.d z)
 |.own xs,.d (.int i)=>bd (op (atI xs i)) fun z=>rt (.d z)
 |.new xs,.d (.int i)=>bd (op (atI xs i)) fun z=>rt (.d z)
 |_,_=>none
theorem RpL.atI {Z:List Addr} {H:Hp} {ds:List D} {vs:List V} {i:Int} {d:D} (l:RpL Z H ds vs) (h:L2.atI ds i=some d):∃v,L2.atI vs i=some v/\Rp Z H d v:=by
 unfold L2.atI at h ⊢;rw [<-l.length];cases e:Ej ds.length i with
 |none=>rw [e] at h; cases h
 |some j=>
  rw [e] at h;obtain ⟨v,e1,r⟩:=l.get (i:=j) h;exact ⟨v,e1,r⟩
theorem tQ (g:α->β) (xs:List α) (i:Int):atI (xs.map g) i=(atI xs i).map g:=by
 unfold atI;rw [List.length_map];cases Ej xs.length i with
 |none=>rfl
 |some j=>simp
theorem bQ {o:Option α} {g:α->M β} {r:Except Value β} (h:bd (op o) g=some r):∃x,o=some x/\g x=some r:=by
 cases o with
 |none=>cases h
 |some x=>exact ⟨x,rfl,h⟩
theorem bE (ha:PX X E a fa) (hb:PX X E b fb) (hs:uE b:=by intro _ _; rfl):PX X E (.Subscript a b pos) (e2 cb fa fb):=PE.mono (Fw Cq ha hb hs) fun σ H Q q=>t2 q fun O P x y r v u H1 dom s1 rx ry e q=>by
 unfold cb at e;split at e
 ·obtain ⟨z,e1,e2⟩:=bQ e;cases e2;cases ry;have rx':Rp (P++O) H1 _ v:=rx;cases rx' with
  |tup hz ha l=>
   obtain ⟨w,e3,N4⟩:=l.atI e1;exact .inr (.inl ⟨_,_,_,w,rfl,rfl,kM.of ha,e3,q w H1 (aF.refl H1) N4⟩)
 ·obtain ⟨z,e1,e2⟩:=bQ e;cases e2;cases ry;have rx':Rp (P++O) H1 _ v:=rx;cases rx' with
  |lst hz ha l=>
   obtain ⟨w,e3,N4⟩:=l.atI e1;exact .inl ⟨_,_,_,w,rfl,rfl,eN.of ha,e3,q w H1 (aF.refl H1) N4⟩
 ·obtain ⟨z,e1,e2⟩:=bQ e;cases e2;cases ry;obtain ⟨a,vs,rfl,hP,ha,l⟩:=rx;obtain ⟨w,e3,N4⟩:=l.atI e1;exact .inl ⟨_,_,_,w,rfl,rfl,eN.of ha,e3,q w H1 (aF.refl H1) N4⟩
 ·obtain ⟨z,e1,e2⟩:=bQ e;cases e2;cases ry;obtain ⟨a,vs,rfl,hn,ha,l⟩:=rx;obtain ⟨w,e3,N4⟩:=l.atI e1;exact .inl ⟨_,_,_,w,rfl,rfl,eN.of ha,e3,q w H1 (aF.refl H1) (N4.kp (.sub fun b hb=>KS _ hb))⟩
 ·cases e
open Classical in
noncomputable def BW (K:Lb) (x y:DV):M DV:=match x,y with
 |.scr K' ns,.d (.int i)=>if K'=K then bd (op (atI ns i)) fun n=>rt (.d (.int n)) else none
 |_,_=>none
theorem RE.scrSq {K:Lb} {ns:List Int} (r:RE O P H₀ H (.scr K ns) v):∃a,v=.ref a/\eN K H a (ns.map V.int):=by
 obtain ⟨a,ev,hz⟩:=r;exact ⟨a,ev,hz.imp (fun z=>z.2) fun z=>z⟩
theorem Gs (ha:PX X E a fa) (hb:PX X E b fb) (hs:uE b:=by intro _ _; rfl):PX X E (.Subscript a b pos) (e2 (BW X.K) fa fb):=PE.mono (Fw Cq ha hb hs) fun σ H Q q=>t2 q fun O P x y r v u H1 dom s1 rx ry e q=>by
 unfold BW at e;split at e
 ·split at e
  ·rename_i hK;subst hK;obtain ⟨z,e1,e2⟩:=bQ e;cases e2;cases ry;obtain ⟨a,rfl,ha⟩:=rx.scrSq;exact .inl ⟨_,_,_,.int z,rfl,rfl,ha,by rw [tQ,e1]; rfl,q _ H1 (aF.refl H1) (.int z)⟩
  ·cases e
 ·cases e
noncomputable def sZ (xs:List D) (lo hi:Option Int):List D:=(xs.drop (HT.sIx xs.length 0 lo)).take (HT.sIx xs.length xs.length hi-HT.sIx xs.length 0 lo)
theorem RpL.cut {ds:List D} {vs:List V} (l:RpL Z H ds vs) (lo hi:Option Int):RpL Z H (sZ ds lo hi) (Ag vs lo hi):=by
 unfold sZ Ag;rw [l.length];exact (l.drop _).take _
noncomputable def vw (x:DV) (lo hi:Option Int):M DV:=bd (op (k7 x)) fun xs=>rt (.new (sZ xs lo hi))
noncomputable def FQ:DV->M Int
 |.d (.int i)=>rt i
 |_=>none
@[simp] theorem C1 (i:Int):FQ (.d (.int i))=rt i:=rfl
theorem rN {r:Except Value Int} (h:FQ x=some r):∃i,x=.d (.int i)/\r=.ok i:=by
 unfold FQ at h;split at h
 ·rename_i i;cases h; exact ⟨i,rfl,rfl⟩
 ·cases h
noncomputable def qp (fa fl:DS->M DV) (δ:DS):M DV:=bd (fa δ) fun x=>bd (fl δ) fun l=>bd (FQ l) fun i=>vw x (some i) none
noncomputable def rj (fa fh:DS->M DV) (δ:DS):M DV:=bd (fa δ) fun x=>bd (fh δ) fun h=>bd (FQ h) fun j=>vw x none (some j)
theorem zk {lo hi:Option Int} {K:Lb} (s12:aF H1 H2) (hs:aF H₀ H2) (rx:RE O P H₀ H1 x v) (e:vw x lo hi=some r) (q:Fn E O P H₀ H2 Q r):Jo K v lo hi H2 Q:=by
 obtain ⟨xs,e1,e2⟩:=bQ e;cases e2;obtain ⟨a,vs,rfl,ha,l⟩:=(rx.on s12).list e1;exact ⟨a,vs,rfl,eN.of ha,fun p hp=>q _ _ (bw hp) (RE.made hs hp (l.cut lo hi))⟩
theorem yi {h:Int->M DV} (rx:RE O P H₀ H x v) (e:bd (FQ x) h=some r):∃i,v=.int i/\h i=some r:=by
 rcases az e with ⟨i,e1,e2⟩|⟨c,e1,e2⟩
 ·obtain ⟨j,rfl,ej⟩:=rN e1;cases ej;cases rx;exact ⟨_,rfl,e2⟩
 ·obtain ⟨j,_,ej⟩:=rN e1;cases ej
theorem xY {p2:Pos} (ha:PX X E a fa) (hb:PX X E b fb):PX X E (.Subscript a (.Slice (some b) none none p2) pos) (qp fa fb):=PE.mono (wd yf ha (yM hb) yJ) fun σ H Q q=>
 kR (g:=fun δ x=>bd (fb δ) fun l=>bd (FQ l) fun i=>vw x (some i) none) q fun O P δ x r v H1 rs LC s1 rx e q=>by
  rcases az e with ⟨l,e1,e2⟩|⟨c,e1,e2⟩
  ·refine ⟨O,P,δ,.ok l,LC,e1,fun u H2 s2 rl=>?_⟩;obtain ⟨i,rfl,e3⟩:=yi rl e2;exact ⟨i,rfl,zk s2 (s1.trans s2) rx e3 (q.on s2)⟩
  ·subst e2;exact ⟨O,P,δ,.error c,LC,e1,q⟩
theorem sY {p2:Pos} (ha:PX X E a fa) (hb:PX X E b fb):PX X E (.Subscript a (.Slice none (some b) none p2) pos) (rj fa fb):=PE.mono (wd yf ha yJ (yM hb)) fun σ H Q q=>
 kR (g:=fun δ x=>bd (fb δ) fun l=>bd (FQ l) fun i=>vw x none (some i)) q fun O P δ x r v H1 rs LC s1 rx e q=>by
  rcases az e with ⟨l,e1,e2⟩|⟨c,e1,e2⟩
  ·refine ⟨O,P,δ,.ok l,LC,e1,fun u H2 s2 rl=>?_⟩;obtain ⟨i,rfl,e3⟩:=yi rl e2;exact ⟨i,rfl,zk s2 (s1.trans s2) rx e3 (q.on s2)⟩
  ·subst e2;exact ⟨O,P,δ,.error c,LC,e1,q⟩
noncomputable def C3 (C:Addr) (n:Str) (x:DV):M DV:=match x with
 |.ob C' fs=>if C'=C then bd (op (fs.lookup n)) fun d=>rt (.d d) else none
 |_=>none
noncomputable def ft (C:Addr) (n:Str) (fa:DS->M DV) (δ:DS):M DV:=bd (fa δ) (C3 C n)
theorem FK.look {Z:List Addr} {H:Hp} {n:Str} {d:D}:∀{fs:List (Str×D)} {gs:List (Str×V)},FK Z H fs gs->fs.lookup n=some d->∃v,gs.lookup n=some v/\Rp Z H d v
 |_,_,.nil,h=>by simp at h
 |(k,x)::fs,(k',y)::gs,.cons ⟨ek,r⟩ t,h=>by
  have ek':k=k':=ek;subst ek';by_cases hn:n=k
  ·subst hn;simp only [List.lookup_cons,beq_self_eq_true] at h ⊢;cases h;exact ⟨_,rfl,r⟩
  ·have hb:(n==k)=false:=by simpa using hn
   simp only [List.lookup_cons,hb] at h ⊢;exact FK.look t h
theorem jd {C:Addr} {n:Str} (ha:PX X E a fa) (hc:Cls X.K C) (hn:eR X.K C n) (hb:attributeBase a n X.env (eval a X.env)=eval a X.env:=by rfl):PX X E (.Attribute a n pos) (ft C n fa):=PE.mono (AD ha hb) fun σ H Q q=>
 kR (g:=fun _=>C3 C n) q fun O P δ x r v H1 rs LC s1 rx e q=>by
  unfold C3 at e;split at e
  ·split at e
   ·rename_i hC;subst hC;obtain ⟨d,e1,e2⟩:=bQ e;cases e2;obtain ⟨a,dx,gs,rfl,hz,ha,hf⟩:=rx;obtain ⟨w,e3,N4⟩:=FK.look hf e1;exact ⟨a,_,dx,gs,w,rfl,ha,hc,hn,e3,q w H1 (aF.refl H1) N4⟩
   ·cases e
  ·cases e
def d4 (X:Cx) (E:XK) (f:Value) (g:List DV->M DV):Prop:=
 ∀(pins:List (Addr×Obj)) (s:Shared) (σ:St) (O P:List Addr) (H₀ H:Hp) (xs:List DV) (vs:List V) (us:List Value) (r:Except Value DV) (Q:VK),Inv X pins σ H s->(∀a,a∈P++O->∃o,H₀ a=some o)->aF H₀ H ->
  lU O P H₀ H xs vs->aX vs us->g xs=some r->Fn E O P H₀ H Q r->wpAny (model X.prog X.w) X.A (call f us) (EP X pins σ Q) X.xe s
def BF (E:XK) (g:List DV->M DV) (vs:List V) (H:Hp) (Q:VK):Prop:=∃O P H₀ xs r,(∀a,a∈P++O->∃o,H₀ a=some o)/\aF H₀ H/\lU O P H₀ H xs vs/\g xs=some r/\Fn E O P H₀ H Q r
theorem d4.rule {f:Value} {g:List DV->M DV} (h:d4 X E f g):l7 X f (BF E g):=fun pins s σ H vs us Q I rv ⟨O,P,H₀,xs,r,h1,h2,h3,h4,h5⟩=>h pins s σ O P H₀ H xs vs us r Q I h1 h2 h3 rv h4 h5
theorem d4.of {f:Value} {g:List DV->M DV} {R:List V->Hp->VK->Prop} (hc:l7 X f R)
  (h:∀(O P:List Addr) (H₀ H:Hp) (xs:List DV) (vs:List V) (r:Except Value DV) (Q:VK),(∀a,a∈P++O->∃o,H₀ a=some o)->aF H₀ H->lU O P H₀ H xs vs->g xs=some r->Fn E O P H₀ H Q r->R vs H Q):d4 X E f g:=
 fun pins s σ O P H₀ H xs vs us r Q I h1 h2 h3 rv h4 h5=>hc pins s σ H vs us Q I rv (h O P H₀ H xs vs r Q h1 h2 h3 h4 h5)
noncomputable def aN (g:List DV->M DV) (fr:DS->M (List DV)) (δ:DS):M DV:=bd (fr δ) g
theorem Bi {g:List DV->M DV} {σ:St} (q:tE E (aN g fr) σ H Q):JZ E fr σ H fun vs H1=>BF E g vs H1 Q:=
 nP (g:=fun _=>g) q fun O P δ xs r vs H1 rs LC s1 rx e q=>⟨O,P,H,xs,r,rs.dom,s1,rx,e,q⟩
theorem aS {x:Str} {id:String} {g:List DV->M DV} (hc:d4 X E (.builtin id) g) (hg:Gl X x) (hm:X.mg x=none) (hv:bootBuiltins x=some (.builtin id)) (ha:vg X E (e::es) fr) (hn:x ≠ "__name__" :=by decide) (Mi:(x==("__debug__" : Str))=false:=by decide)
  (he:starEach (e::es) X.env=(false,eval e X.env)::starEach es X.env:=by rfl) (L9:(backTo pos (starEach es X.env)).any (·.1)=false:=by rfl):PX X E (.Call (.Name x p) (e::es) [] pos) (aN g fr):=
 PE.mono (AK hc.rule hg hm hv ha hn Mi he L9) fun σ H Q q=>Bi q
theorem iW {x:Str} {T:String} {g:List DV->M DV} (hc:d4 X E (.type T) g) (hg:Gl X x) (hm:X.mg x=none) (hv:bootBuiltins x=some (.type T)) (ha:vg X E (e::es) fr) (hn:x ≠ "__name__" :=by decide) (Mi:(x==("__debug__" : Str))=false:=by decide)
  (he:starEach (e::es) X.env=(false,eval e X.env)::starEach es X.env:=by rfl) (L9:(backTo pos (starEach es X.env)).any (·.1)=false:=by rfl):PX X E (.Call (.Name x p) (e::es) [] pos) (aN g fr):=
 PE.mono (Ab hc.rule hg hm hv ha hn Mi he L9) fun σ H Q q=>Bi q
end
def Sub (δ δ':DS):Prop:=δ.length=δ'.length/\∀(i:Nat) (x:DV),δ[i]?=some (some x)->δ'[i]?=some (some x)
variable {δ:DS} {i:Nat}
theorem Er {y:Option DV} (h:δ[i]?=some none\/δ[i]?=none):Sub δ (δ.set i y):=⟨0x4,fun j x e=>by
 by_cases hj:i=j
 ·subst hj;rcases h with h|h <;> (rw [h] at e; cases e)
 ·rw [List.getElem?_set_ne hj]; exact e⟩
section
variable {O P:List Addr} {H:Hp} {σ:St} {δ δ':DS}
theorem RS.forget (r:RS O P H σ δ') (h:Sub δ δ'):RS O P H σ δ:=
 ⟨r.len.trans h.1.symm,r.dom,r.apart,fun i x e=>r.at' i x (h.2 i x e),fun i j x y v w a e1 e2=>r.one i j x y v w a (h.2 i _ e1) (h.2 j _ e2)⟩
theorem RS.set (r:RS O P H σ δ) {i:Nat} {x:DV} {v:V} (rx:RE O P H H x v) (h1:∀xs,x≠.new xs) (h2:EW x=false):RS O P H (σ.set i (some v)) (δ.set i (some x)):=by
 refine ⟨by simp [r.len],r.dom,r.apart,fun j y e=>?_,fun j k y z v1 v2 c e1 e2 e3 e4 o1 o2=>?_⟩
 ·by_cases hj:i=j
  ·subst hj;by_cases hi:i<δ.length
   ·rw [List.getElem?_set_self hi] at e;cases e;exact ⟨v,by rw [List.getElem?_set_self (by rw [r.len]; exact hi)],h1,rx⟩
   ·rw [List.getElem?_eq_none (by simpa using hi)] at e; cases e
  ·rw [List.getElem?_set_ne hj] at e;obtain ⟨w,e1,e2,e3⟩:=r.at' j y e;exact ⟨w,by rw [List.getElem?_set_ne hj]; exact e1,e2,e3⟩
 ·have nj:∀(j:Nat) (y:DV),(δ.set i (some x))[j]?=some (some y)->EW y=true->i≠j/\δ[j]?=some (some y):=fun j y e ho=>by
   by_cases hj:i=j
   ·subst hj;by_cases hi:i<δ.length
    ·rw [List.getElem?_set_self hi] at e;cases e;rw [h2] at ho; cases ho
    ·rw [List.getElem?_eq_none (by simpa using hi)] at e; cases e
   ·exact ⟨hj,by rw [List.getElem?_set_ne hj] at e; exact e⟩
  obtain ⟨n1,d1⟩:=nj j y e1 o1.q;obtain ⟨n2,d2⟩:=nj k z e2 o2.q;rw [List.getElem?_set_ne n1] at e3;rw [List.getElem?_set_ne n2] at e4;exact r.one j k y z v1 v2 c d1 d2 e3 e4 o1 o2
theorem RS.ownG {H0:Hp} (r:RS O P H0 σ δ) (hs:aF H0 H) {u:HO} (hn:H0 a=none) (ha:H a=some u) (hx:∀xs,x≠.new xs) (rx:RE O (a::P) H H x v) (hx1:∀b,qX H x v b->b=a):RS O (a::P) H (σ.set i (some v)) (δ.set i (some x)):=by
 have fz:a∉P++O:=fun h=>by
  obtain ⟨o,e⟩:=r.dom a h;rw [hn] at e; cases e
 have k:Kp (P++O) H0 (a::P++O) H:=⟨fun b o _ e=>hs b o e,fun b hb=>by
  rcases Lc.mp hb with e|e
  ·exact .inr (e▸hn)
  ·exact .inl e⟩
 refine ⟨by simp [r.len],fun b hb=>?_,fun b hb hO=>?_,fun j y e=>?_,fun j m y z v1 v2 c e1 e2 e3 e4 o1 o2=>?_⟩
 ·rcases Lc.mp hb with e|e
  ·exact ⟨_,e▸ha⟩
  ·obtain ⟨o,q⟩:=r.dom b e;exact ⟨o,hs b o q⟩
 ·rcases Lc.mp hb with e|e
  ·exact fz (KY _ (e▸hO))
  ·exact r.apart b e hO
 ·by_cases hj:i=j
  ·subst hj;by_cases hi:i<δ.length
   ·rw [List.getElem?_set_self hi] at e;cases e;exact ⟨v,by rw [List.getElem?_set_self (by rw [r.len]; exact hi)],hx,rx⟩
   ·rw [List.getElem?_eq_none (by simpa using hi)] at e; cases e
  ·rw [List.getElem?_set_ne hj] at e;obtain ⟨w,e1,e2,e3⟩:=r.at' j y e;refine ⟨w,by rw [List.getElem?_set_ne hj]; exact e1,e2,?_⟩;cases y with
   |d y=>exact Rp.kp k e3
   |ob C fs=>exact Dh.kp k e3
   |fz kvs=>exact yn.kp k e3
   |ex q=>exact e3
   |tpo p xs q=>exact Hd.kp k (fun b u hp hb=>⟨KS _ hp,hs b u hb⟩) e3
   |nwt p xs q=>exact (BZ.no e3).elim
   |own ys=>
    obtain ⟨b,us,eb,hP,hb,hl⟩:=e3;exact ⟨b,us,eb,KS _ hP,hs b _ hb,hl.kp k⟩
   |new ys=>exact absurd rfl (e2 ys)
   |scr K ns=>
    obtain ⟨b,eb,⟨hz,hb⟩|hk⟩:=e3
    ·refine ⟨b,eb,.inl ⟨fun h=>?_,aF.rd hs hb⟩⟩;rcases Lc.mp h with z|z
     ·rcases hb with hb|⟨ob,hb⟩ <;> (rw [z,hn] at hb; cases hb)
     ·exact hz z
    ·exact ⟨b,eb,.inr hk⟩
 ·
  have old:∀(j:Nat) (y:DV) (w:V),δ[j]?=some (some y)->σ[j]?=some (some w)->qX H y w c->qX H0 y w c/\c∈P:=fun j y w e q o=>by
   obtain ⟨w',e1,_,r1⟩:=r.at' j _ e;rw [q] at e1;cases e1;have:=o.old (fun b o _ q=>hs b o q) r1;exact ⟨this,this.new r1⟩
  by_cases hj:i=j
  ·by_cases hm:i=m
   ·exact hj.symm.trans hm
   ·subst hj;by_cases hi:i<δ.length
    ·rw [List.getElem?_set_self hi] at e1;cases e1;rw [List.getElem?_set_self (by rw [r.len]; exact hi)] at e3;cases e3;rw [List.getElem?_set_ne hm] at e2 e4;have hc:=hx1 c o1;exact absurd (KZ _ (hc▸(old m z v2 e2 e4 o2).2)) fz
    ·rw [List.getElem?_eq_none (by simpa using hi)] at e1; cases e1
  ·by_cases hm:i=m
   ·subst hm;by_cases hi:i<δ.length
    ·rw [List.getElem?_set_self hi] at e2;cases e2;rw [List.getElem?_set_self (by rw [r.len]; exact hi)] at e4;cases e4;rw [List.getElem?_set_ne hj] at e1 e3;have hc:=hx1 c o2;exact absurd (KZ _ (hc▸(old j y v1 e1 e3 o1).2)) fz
    ·rw [List.getElem?_eq_none (by simpa using hi)] at e2; cases e2
   ·rw [List.getElem?_set_ne hj] at e1 e3;rw [List.getElem?_set_ne hm] at e2 e4;exact r.one j m y z v1 v2 c e1 e2 e3 e4 (old j y v1 e1 e3 o1).1 (old m z v2 e2 e4 o2).1
theorem RS.own {H0:Hp} (r:RS O P H0 σ δ) (hs:aF H0 H) {i:Nat} {xs:List D} {v:V} (rx:RE O P H0 H (.new xs) v):∃a,H0 a=none/\RS O (a::P) H (σ.set i (some v)) (δ.set i (some (.own xs))):=by
 obtain ⟨a,vs,rfl,hn,ha,l⟩:=rx;exact ⟨a,hn,r.ownG hs hn ha (fun _=>nofun) ⟨a,vs,rfl,KU,ha,l⟩ fun b h=>by
  have h':V.ref a=.ref b:=h;cases h'; rfl⟩
theorem RS.ownT {H0:Hp} (r:RS O P H0 σ δ) (hs:aF H0 H) {p:List D} (rx:RE O P H0 H (.nwt p xs q) v):∃a,H0 a=none/\RS O (a::P) H (σ.set i (some v)) (δ.set i (some (.tpo p xs q))):=by
 obtain ⟨t,a,ps,vs,qs,rfl,hz,ht,hn,ha,l1,l2,l3⟩:=rx;refine ⟨a,hn,r.ownG hs hn ha (fun _=>nofun) ⟨t,a,ps,vs,qs,rfl,hz,ht,KU,ha,l1,l2,l3⟩ fun b h=>?_⟩;obtain ⟨t',us,e',Of,hu⟩:=h;cases e';rw [ht] at Of;cases Of;rw [l1.length,List.getElem?_append_right (K2 _),Nat.sub_self] at hu;cases hu;rfl
end
def C7 (g:TG) (sf:D->DS->Option DS):Prop:=∀(O P:List Addr) (H:Hp) (σ:St) (δ δ':DS) (d:D) (v:V) (Q:St->Hp->Prop),RS O P H σ δ->Rp (P++O) H d v->sf d δ=some δ'->(∀σ',RS O P H σ' δ'->Q σ' H)->g v σ H Q
noncomputable def aq (i:Nat) (d:D) (δ:DS):Option DS:=some (δ.set i (some (.d d)))
theorem aD (i:Nat):C7 (nR i) (aq i):=fun O P H σ δ δ' d v Q r rd e h=>by
 cases e;exact h _ (r.set (x:=.d d) rd (fun _=>nofun) rfl)
noncomputable def n4 (ds:List D) (δ:DS):Option DS:=match ds with
 |[]=>some δ
 |_=>none
noncomputable def dE (sf:D->DS->Option DS) (st:List D->DS->Option DS) (ds:List D) (δ:DS):Option DS:=match ds with
 |[]=>none
 |d::r=>match sf d δ with
  |some δ'=>st r δ'
  |none=>none
noncomputable def nq (n:Nat) (st:List D->DS->Option DS) (d:D) (δ:DS):Option DS:=match d with
 |.tuple ds=>if ds.length=n then st ds δ else none
 |_=>none
def E6 (g:Dj) (sf:List D->DS->Option DS):Prop:=∀(O P:List Addr) (H:Hp) (σ:St) (δ δ':DS) (ds:List D) (vs:List V) (Q:St->Hp->Prop),RS O P H σ δ->RpL (P++O) H ds vs->sf ds δ=some δ'->(∀σ',RS O P H σ' δ'->Q σ' H)->g vs σ H Q
theorem t5:E6 Jc n4:=fun O P H σ δ δ' ds vs Q r rd e h=>by
 cases rd with
 |nil=>cases e; exact ⟨rfl,h σ r⟩
 |cons _ _=>cases e
theorem hX {g:TG} {sf:D->DS->Option DS} {gs:Dj} {st:List D->DS->Option DS} (h1:C7 g sf) (h2:E6 gs st):E6 (FF g gs) (dE sf st):=fun O P H σ δ δ' ds vs Q r rd e h=>by
 cases rd with
 |nil=>cases e
 |cons r1 rr=>
  unfold dE at e;simp only at e;split at e
  ·rename_i δ1 e1;exact ⟨_,_,rfl,h1 O P H σ δ δ1 _ _ _ r r1 e1 fun σ1 LC=>h2 O P H σ1 δ1 δ' _ _ Q LC rr e h⟩
  ·cases e
variable {K:Lb}
theorem ux {gs:Dj} {st:List D->DS->Option DS} (h:E6 gs st):C7 (Ii K n gs) (nq n st):=fun O P H σ δ δ' d v Q r rd e hq=>by
 unfold nq at e;split at e
 ·split at e
  ·rename_i hn;cases rd with
   |tup hz ha l=>exact ⟨_,_,rfl,kM.of ha,by rw [<-l.length]; exact hn,h O P H σ δ δ' _ _ Q r l e hq⟩
  ·cases e
 ·cases e
def Ep (n:Nat) (fm:List DV->M DV):Sp:=fun vs H Q _=>vs.length=n/\∃O xs x,(∀a,a∈O->∃o,H a=some o)/\lU O [] H H xs vs/\fm xs=some (.ok x)/\∀v H',aF H H'->RE O [] H H' x v->Q v H'
noncomputable def args:List DV->Option (List DV)
 |[]=>some []
 |x::r=>match Fp x,args r with
  |some y,some ys=>some (y::ys)
  |_,_=>none
@[simp] theorem args_nil:args []=some []:=rfl
theorem gD (x:DV) (r:List DV):args (x::r)=match Fp x,args r with|some y,some ys=>some (y::ys)|_,_=>none:=rfl
@[simp] theorem wQ (x:D) (r:List DV):args (.d x::r)=(args r).map (.d x::·):=by
 rw [gD,IL]; cases args r <;> rfl
@[simp] theorem oU (C:Addr) (fs:List (Str×D)) (r:List DV):args (.ob C fs::r)=(args r).map (.ob C fs::·):=by
 rw [gD,Hj]; cases args r <;> rfl
@[simp] theorem qm (xs:List D) (r:List DV):args (.new xs::r)=(args r).map (.d (.list xs)::·):=by
 rw [gD,Ds]; cases args r <;> rfl
@[simp] theorem qu (K:Lb) (ns:List Int) (r:List DV):args (.scr K ns::r)=(args r).map (.scr K ns::·):=by
 rw [gD,Es]; cases args r <;> rfl
theorem RE.hand {y:DV} (dom:∀a,a∈P++O->∃o,H₀ a=some o) (hs:aF H₀ H) (r:RE O P H₀ H x v) (h:Fp x=some y):RE (P++O) [] H H y v:=by
 cases x with
 |d z=>cases h; exact r
 |ob C fs=>cases h; exact r
 |fz kvs=>cases h; exact r
 |ex q=>cases h; exact r
 |tpo p xs q=>cases h
 |nwt p xs q=>cases h; exact pY dom r
 |own xs=>cases h
 |new xs=>cases h; exact l9 dom r
 |scr K ns=>cases h; exact r
theorem lU.hand {O P:List Addr} {H₀ H:Hp} (dom:∀a,a∈P++O->∃o,H₀ a=some o) (hs:aF H₀ H):∀{xs ys:List DV} {vs:List V},lU O P H₀ H xs vs->args xs=some ys->lU (P++O) [] H H ys vs
 |_,_,_,.nil,h=>by cases h; exact .nil
 |_,_,_,.cons r t,h=>by
  rw [gD] at h;split at h
  ·rename_i y ys h1 h2;cases h;exact .cons (r.hand dom hs h1) (lU.hand dom hs t h2)
  ·cases h
theorem RE.back (hs:aF H₀ H) (r:RE (P++O) [] H H' x v):RE O P H₀ H' x v:=by
 cases x with
 |d z=>exact r
 |ob C fs=>exact r
 |fz kvs=>exact r
 |ex q=>exact r
 |tpo p xs q=>
  obtain ⟨t,a,ps,vs,qs,e,hz,ht,hP,_⟩:=r;cases hP
 |nwt p xs q=>
  obtain ⟨t,a,ps,vs,qs,e,hz,ht,hn,ha,ll⟩:=r;exact ⟨t,a,ps,vs,qs,e,hz,ht,hs.free hn,ha,ll⟩
 |own xs=>
  obtain ⟨a,vs,e,hP,_⟩:=r;cases hP
 |new xs=>
  obtain ⟨a,vs,e,hn,ha,l⟩:=r;exact ⟨a,vs,e,hs.free hn,ha,l⟩
 |scr K ns=>exact r
noncomputable def Gk {α:Type} (m:M α):M α:=match m with
 |some (.ok x)=>some (.ok x)
 |_=>none
@[simp] theorem xm (x:α):Gk (some (.ok x):M α)=some (.ok x):=rfl
@[simp] theorem wz (x:α):Gk (rt x)=rt x:=rfl
noncomputable def ay (n:Nat) (fm:List DV->M DV) (xs:List DV):M DV:=bd (op (args xs)) fun ys=>if ys.length=n then Gk (fm ys) else none
section
variable {X:Cx} {E:XK} {a b c e o:Expr} {es:List Expr} {pos p:Pos} {fa fb fc f:DS->M DV} {fr:DS->M (List DV)}
theorem Ed {k:Nat} {fn:Addr} {fd:FuncData} {ps:List Str} {x:Str} {fm:List DV->M DV} (F:FnOk X.prog X.w X.K X.mg X.base uH k fn fd ps (Ep n fm)) (hr:Room k X.A) (hm:X.mg x=some (.ref fn)) (hk:PySem.W.keepIn X.K (.ref fn)=true) (hb:gi X.K fd ps [])
  (ha:vg X E (e::es) fr) (hg:Gl X x:=by rfl) (Mi:(x==("__debug__" : Str))=false:=by decide) (he:starEach (e::es) X.env=(false,eval e X.env)::starEach es X.env:=by rfl) (L9:(backTo pos (starEach es X.env)).any (·.1)=false:=by rfl) :
  PX X E (.Call (.Name x p) (e::es) [] pos) (aN (ay n fm) fr):=
 PE.mono (zi (E:=E0) F hr hg hm hk hb .nil (fun _ _ _ _ _ _ _ h=>h.elim) ha Mi he L9) fun σ H Q q=>nP (g:=fun _=>ay n fm) q fun O P δ xs r vs H1 rs LC s1 rx e q=>by
  obtain ⟨ys,h1,h2⟩:=bQ e;split at h2
  ·rename_i hl;cases hf:fm ys with
   |none=>rw [hf] at h2; cases h2
   |some z=>
    rw [hf] at h2;cases z with
    |error c=>cases h2
    |ok x=>
     cases h2;have ry:=lU.hand rs.dom s1 rx h1;refine ⟨?_,P++O,ys,x,fun a ha=>?_,?_,hf,fun v H' s2 rv=>q v H' s2 (rv.back s1)⟩
     ·rw [List.append_nil,<-Paired.length ry]; exact hl
     ·obtain ⟨o,e'⟩:=rs.dom a ha;exact ⟨o,s1 a o e'⟩
     ·rw [List.append_nil]; exact ry
  ·cases h2
noncomputable def cy (xs:List DV):M DV:=match xs with
 |[x]=>match mR x with
  |some (.list ys)=>rt (.d (.int ys.length))
  |some (.tuple ys)=>rt (.d (.int ys.length))
  |_=>none
 |_=>none
theorem RE.look {ys:List D} (r:RE O P H₀ H x v):(mR x=some (.list ys)->∃a vs,v=.ref a/\H a=some (.lst vs)/\RpL (P++O) H ys vs)/\(mR x=some (.tuple ys)->∃a vs,v=.ref a/\H a=some (.tup vs)/\RpL (P++O) H ys vs):=by
 refine ⟨fun h=>?_,fun h=>?_⟩
 ·refine r.list ?_;cases x with
  |d z=>cases h; rfl
  |ob C fs=>cases h
  |fz kvs=>cases h
  |ex q=>cases h
  |tpo p xs q=>cases h
  |nwt p xs q=>cases h
  |own xs=>cases h; rfl
  |new xs=>cases h; rfl
  |scr K ns=>cases h
 ·cases x with
  |d z=>
   cases h;have r':Rp (P++O) H _ v:=r;cases r' with
   |tup hz ha l=>exact ⟨_,_,rfl,ha,l⟩
  |ob C fs=>cases h
  |fz kvs=>cases h
  |ex q=>cases h
  |tpo p xs q=>cases h
  |nwt p xs q=>cases h
  |own xs=>cases h
  |new xs=>cases h
  |scr K ns=>cases h
theorem d5:d4 X E (.builtin "len") cy:=d4.of mI fun O P H₀ H xs vs r Q hd hs rx e q=>by
 unfold cy at e;split at e
 ·cases rx with
  |cons r1 rr=>
   cases rr;split at e
   ·rename_i h;cases e;obtain ⟨a,vs,rfl,ha,l⟩:=r1.look.1 h;exact ⟨a,vs,rfl,.inl (eN.of ha),q _ H (aF.refl H) (by rw [l.length]; exact .int _)⟩
   ·rename_i h;cases e;obtain ⟨a,vs,rfl,ha,l⟩:=r1.look.2 h;exact ⟨a,vs,rfl,.inr (kM.of ha),q _ H (aF.refl H) (by rw [l.length]; exact .int _)⟩
   ·cases e
 ·cases e
open Classical in
noncomputable def vz (K:Lb) (xs:List DV):M DV:=match xs with
 |[.scr K' ns]=>if K'=K then rt (.d (.int ns.length)) else none
 |_=>none
theorem DL:d4 X E (.builtin "len") (vz X.K):=d4.of mI fun O P H₀ H xs vs r Q hd hs rx e q=>by
 unfold vz at e;split at e
 ·split at e
  ·rename_i hK;subst hK;cases e;cases rx with
   |cons r1 rr=>
    cases rr;obtain ⟨a,rfl,ha⟩:=r1.scrSq;refine ⟨a,_,rfl,.inl ha,?_⟩;rw [List.length_map];exact q _ H (aF.refl H) (.int _)
  ·cases e
 ·cases e
noncomputable def u9 (xs:List DV):M DV:=match xs with
 |[x]=>match mR x with
  |some (.list ys)=>rt (.new ys)
  |some (.tuple ys)=>rt (.new ys)
  |_=>none
 |_=>none
theorem sV:d4 X E (.type "list") u9:=d4.of sF fun O P H₀ H xs vs r Q hd hs rx e q=>by
 unfold u9 at e;split at e
 ·cases rx with
  |cons r1 rr=>
   cases rr;split at e
   ·rename_i h;cases e;obtain ⟨a,vs,rfl,ha,l⟩:=r1.look.1 h;exact ⟨a,vs,rfl,.inl (eN.of ha),fun p hp=>q _ _ (bw hp) (RE.made hs hp l)⟩
   ·rename_i h;cases e;obtain ⟨a,vs,rfl,ha,l⟩:=r1.look.2 h;exact ⟨a,vs,rfl,.inr (kM.of ha),fun p hp=>q _ _ (bw hp) (RE.made hs hp l)⟩
   ·cases e
 ·cases e
noncomputable def Cj (xs:List DV):M DV:=match xs with
 |[.d (.int i)]=>rt (.d (.int i))
 |[.d (.bool k)]=>rt (.d (.int (if k then 1 else 0)))
 |_=>none
theorem HJ:d4 X E (.type "int") Cj:=d4.of zO fun O P H₀ H xs vs r Q hd hs rx e q=>by
 unfold Cj at e;split at e
 ·cases e;cases rx with
  |cons r1 rr=>
   cases rr;cases r1;exact .inl ⟨_,rfl,q _ H (aF.refl H) (.int _)⟩
 ·cases e;cases rx with
  |cons r1 rr=>
   cases rr;cases r1;exact .inr ⟨_,rfl,q _ H (aF.refl H) (.int _)⟩
 ·cases e
noncomputable def Al (xs:List DV):M DV:=match xs with
 |[.d (.int i),.d (.int j)]=>rt (.d (.int (if j<i then j else i)))
 |_=>none
theorem Hk (hc:X.calm=true):d4 X E (.builtin "min") Al:=d4.of (zu hc) fun O P H₀ H xs vs r Q hd hs rx e q=>by
 unfold Al at e;split at e
 ·cases e;cases rx with
  |cons r1 rr=>
   cases rr with
   |cons r2 rr=>
    cases rr;cases r1;cases r2;exact ⟨_,_,rfl,q _ H (aF.refl H) (.int _)⟩
 ·cases e
end
inductive Out where
 |nx (δ:DS)
 |rt (x:DV)
 |bk (δ:DS)
 |ct (δ:DS)
def GA (E:XK) (O P:List Addr) (H:Hp) (T:Ends):Except Value Out->Prop
 |.ok (.nx δ)=>∀σ' H' P',Kp P H P' H'->RS O P' H' σ' δ->T.nx σ' H'
 |.ok (.bk δ)=>∀σ' H' P',Kp P H P' H'->RS O P' H' σ' δ->T.bk σ' H'
 |.ok (.ct δ)=>∀σ' H' P',Kp P H P' H'->RS O P' H' σ' δ->T.ct σ' H'
 |.ok (.rt x)=>∀v H1 H' P',Kp P H P' H1->aF H1 H'->(∀a,a∈P'++O->∃o,H1 a=some o)->(∀a,a∈P'->a∉O)->RE O P' H1 H' x v->T.rt v H'
 |.error c=>∀dx H' P',Kp P H P' H'->E c dx H'
theorem GA.on {P1:List Addr} {T:Ends} {r:Except Value Out} (h:GA E O P H T r) (k:Kp P H P1 H1):GA E O P1 H1 T r:=by
 cases r with
 |error c=>exact fun dx H' P' k'=>h dx H' P' (k.trans k')
 |ok o=>
  cases o with
  |nx δ=>exact fun σ' H' P' k' rs=>h σ' H' P' (k.trans k') rs
  |bk δ=>exact fun σ' H' P' k' rs=>h σ' H' P' (k.trans k') rs
  |ct δ=>exact fun σ' H' P' k' rs=>h σ' H' P' (k.trans k') rs
  |rt x=>exact fun v H2 H' P' k' s d ap rx=>h v H2 H' P' (k.trans k') s d ap rx
def tS (E:XK) (F:DS->M Out):TS:=fun T σ H=>∃O P δ r,RS O P H σ δ/\F δ=some r/\GA E O P H T r
def ze (X:Cx) (E:XK) (st:Stmt) (F:DS->M Out):Prop:=PS X st (tS E F)
def Aw (X:Cx) (E:XK) (st:List Stmt) (F:DS->M Out):Prop:=qQ X st (tS E F)
variable {X:Cx} {st:Stmt}
theorem PS.mono {t t':TS} (h:PS X st t) (m:∀T σ H,t' T σ H->t T σ H):PS X st t':=fun pins s σ H T I q=>h pins s σ H T I (m T σ H q)
theorem qQ.mono {st:List Stmt} {t t':TS} (h:qQ X st t) (m:∀T σ H,t' T σ H->t T σ H):qQ X st t':=fun pins s σ H T I q=>h pins s σ H T I (m T σ H q)
noncomputable def Js (F:DS->M Out) (o:Out):M Out:=match o with
 |.nx δ=>F δ
 |.rt x=>rt (.rt x)
 |.bk δ=>rt (.bk δ)
 |.ct δ=>rt (.ct δ)
@[simp] theorem wH (F:DS->M Out) (δ:DS):Js F (.nx δ)=F δ:=rfl
@[simp] theorem wU (F:DS->M Out) (x:DV):Js F (.rt x)=rt (.rt x):=rfl
noncomputable def bH (F G:DS->M Out) (δ:DS):M Out:=bd (F δ) (Js G)
noncomputable def bK (δ:DS):M Out:=rt (.nx δ)
section
variable {X:Cx} {E:XK} {st:Stmt} {sts:List Stmt} {F G:DS->M Out} {e c:Expr} {pos:Pos} {f:DS->M DV} {fr:DS->M (List DV)} {gc:DS->M Bool}
theorem bR:Aw X E [] bK:=qQ.mono tO fun T σ H q=>by
 obtain ⟨O,P,δ,r,rs,e,q⟩:=q;cases e;exact q σ H P (.refl) rs
theorem ar (h1:ze X E st F) (h2:Aw X E sts G):Aw X E (st::sts) (bH F G):=qQ.mono (gX h1 h2) fun T σ H q=>by
 obtain ⟨O,P,δ,r,rs,e,q⟩:=q;rcases az e with ⟨o,e1,e2⟩|⟨c,e1,e2⟩
 ·cases o with
  |nx δ1=>exact ⟨O,P,δ,.ok (.nx δ1),rs,e1,fun σ' H' P' k LY=>⟨O,P',δ1,r,LY,e2,q.on k⟩⟩
  |rt x=>cases e2; exact ⟨O,P,δ,.ok (.rt x),rs,e1,q⟩
  |bk δ1=>cases e2; exact ⟨O,P,δ,.ok (.bk δ1),rs,e1,q⟩
  |ct δ1=>cases e2; exact ⟨O,P,δ,.ok (.ct δ1),rs,e1,q⟩
 ·subst e2;exact ⟨O,P,δ,.error c,rs,e1,q⟩
theorem ax (h1:ze X E st F):Aw X E [st] F:=ic h1
noncomputable def frz (i:Nat) (δ:DS):DS:=match δ[i]? with
 |some (some (.own xs))=>δ.set i (some (.d (.list xs)))
 |some (some (.tpo p xs q))=>δ.set i (some (.d (.tuple (p++.list xs::q))))
 |_=>δ
variable {σ:St}
theorem RS.frzG (r:RS O P H σ δ) {d:D} (e:δ[i]?=some (some x)) (ev:σ[i]?=some (some v)) (o:qX H x v a) (hd:Rp (P.filter (fun b=>!decide (b=a))++O) H d v):RS O (P.filter (fun b=>!decide (b=a))) H σ (δ.set i (some (.d d))):=by
 have hi:i<δ.length:=(Lj.mp e).1;have sub:∀b,b∈P.filter (fun b=>!decide (b=a))->b∈P:=fun b hb=>(Li.mp hb).1;have L4:∀b,b∈P.filter (fun b=>!decide (b=a))++O->b∈P++O:=fun b hb=>by
  rcases Ld.mp hb with h|h
  ·exact KZ _ (sub b h)
  ·exact KY _ h
 refine ⟨by simp [r.len],fun b hb=>r.dom b (L4 b hb),fun b hb=>r.apart b (sub b hb),fun j y ej=>?_,fun j m y z v1 v2 c e1 e2 e3 e4 o1 o2=>?_⟩
 ·by_cases hj:i=j
  ·subst hj;rw [List.getElem?_set_self hi] at ej;cases ej;exact ⟨v,ev,fun _=>nofun,hd⟩
  ·rw [List.getElem?_set_ne hj] at ej;obtain ⟨w,e1,e2,e3⟩:=r.at' j y ej;refine ⟨w,e1,e2,?_⟩;have ne:∀c,qX H y w c->c∈P->c∈P.filter (fun b=>!decide (b=a)):=fun c oc hc=>by
    refine Li.mpr ⟨hc,?_⟩;have:c≠a:=fun z=>hj (r.one i j x y v w a e ej ev e1 o (z▸oc));simpa using this
   cases y with
   |d y=>exact Rp.kp (.sub L4) e3
   |ob C fs=>exact Dh.kp (.sub L4) e3
   |fz kvs=>exact yn.kp (.sub L4) e3
   |ex q=>exact e3
   |tpo p xs q=>
    obtain ⟨t,b,ps,vs,qs,et,hz,ht,hb,hl,l1,l2,l3⟩:=e3;refine ⟨t,b,ps,vs,qs,et,fun h=>hz (L4 t h),ht,ne b ⟨t,_,et,ht,?_⟩ hb,hl,l1.kp (.sub L4),l2.kp (.sub L4),l3.kp (.sub L4)⟩;rw [l1.length,List.getElem?_append_right (K2 _),Nat.sub_self]; rfl
   |nwt p xs q=>exact (BZ.no e3).elim
   |own ys=>
    obtain ⟨b,us,eb,hPb,hb,hl⟩:=e3;exact ⟨b,us,eb,ne b eb hPb,hb,hl.kp (.sub L4)⟩
   |new ys=>exact absurd rfl (e2 ys)
   |scr K ns=>
    obtain ⟨b,eb,hz⟩:=e3;exact ⟨b,eb,hz.imp (fun z=>⟨fun h=>z.1 (L4 b h),z.2⟩) fun z=>z⟩
 ·have nj:∀(j:Nat) (y:DV),EW y=true->(δ.set i (some (.d d)))[j]?=some (some y)->δ[j]?=some (some y):=fun j y hy ej=>by
   by_cases hj:i=j
   ·subst hj;rw [List.getElem?_set_self hi] at ej;cases ej;cases hy
   ·rw [List.getElem?_set_ne hj] at ej; exact ej
  exact r.one j m y z v1 v2 c (nj j y o1.q e1) (nj m z o2.q e2) e3 e4 o1 o2
theorem RS.frz {O P:List Addr} {H:Hp} {σ:St} {δ:DS} (r:RS O P H σ δ) (i:Nat):∃P',(∀a,a∈P'->a∈P)/\RS O P' H σ (frz i δ):=by
 have sub:∀a b,b∈P.filter (fun b=>!decide (b=a))->b∈P:=fun a b hb=>(Li.mp hb).1;have nota:∀a,a∈P->a∉P.filter (fun b=>!decide (b=a))++O:=fun a hP h=>by
  rcases Ld.mp h with h|h
  ·have:=(Li.mp h).2; simp at this
  ·exact r.apart a hP h
 have L4:∀a b,b∈P.filter (fun b=>!decide (b=a))++O->b∈P++O:=fun a b hb=>by
  rcases Ld.mp hb with h|h
  ·exact KZ _ (sub a b h)
  ·exact KY _ h
 unfold L3.frz;split
 ·rename_i xs e;obtain ⟨v,ev,_,a,vs,rfl,hP,ha,l⟩:=r.at' i _ e;exact ⟨P.filter (fun b=>!decide (b=a)),sub a,r.frzG e ev rfl (Rp.lst (nota a hP) ha (l.kp (.sub (L4 a))))⟩
 ·rename_i p xs q e;obtain ⟨v,ev,_,t,a,ps,vs,qs,rfl,hz,ht,hP,ha,l1,l2,l3⟩:=r.at' i _ e;refine ⟨P.filter (fun b=>!decide (b=a)),sub a,r.frzG e ev (a:=a) ⟨t,_,rfl,ht,?_⟩ (Rp.tup (fun h=>hz (L4 a t h)) ht (RpL.append (l1.kp (.sub (L4 a))) (.cons (Rp.lst (nota a hP) ha (l2.kp (.sub (L4 a)))) (l3.kp (.sub (L4 a))))))⟩;rw [l1.length,List.getElem?_append_right (K2 _),Nat.sub_self]; rfl
 ·exact ⟨P,fun _ h=>h,r⟩
theorem GA.sub {O P P':List Addr} {H:Hp} {T:Ends} {r:Except Value Out} (h:GA E O P H T r) (hs:∀a,a∈P'->a∈P):GA E O P' H T r:=h.on (.sub hs)
theorem dg (i:Nat) (h:Aw X E sts F):Aw X E sts (fun δ=>F (frz i δ)):=qQ.mono h fun T σ H q=>by
 obtain ⟨O,P,δ,r,rs,e,q⟩:=q;obtain ⟨P',hP,LY⟩:=rs.frz i;exact ⟨O,P',frz i δ,r,LY,e,q.sub hP⟩
noncomputable def eQ (gc:DS->M Bool) (F G:DS->M Out) (δ:DS):M Out:=bd (gc δ) fun k=>if k=true then F δ else G δ
theorem cO {as bs:List Stmt} (hc:PB X E c gc) (ha:Aw X E as F) (hb:Aw X E bs G):ze X E (.If c as bs pos) (eQ gc F G):=PS.mono (AG hc ha hb) fun T σ H q=>by
 obtain ⟨O,P,δ,r,rs,e,q⟩:=q;rcases az e with ⟨k,e1,e2⟩|⟨cx,e1,e2⟩
 ·refine ⟨O,P,δ,.ok k,rs,e1,fun H1 s1=>?_⟩;cases k with
  |true=>exact z5 ⟨O,P,δ,r,rs.same s1,e2,q.on (.same s1)⟩
  |false=>exact Ac ⟨O,P,δ,r,rs.same s1,e2,q.on (.same s1)⟩
 ·subst e2;exact ⟨O,P,δ,.error cx,rs,e1,fun dx H' s=>q dx H' P (.same s)⟩
noncomputable def bt (f:DS->M DV) (δ:DS):M Out:=bd (f δ) fun x=>rt (.rt x)
theorem aL (he:PX X E e f):ze X E (.Return (some e) pos) (bt f):=PS.mono (Cb he) fun T σ H q=>by
 obtain ⟨O,P,δ,r,rs,e,q⟩:=q;rcases az e with ⟨x,e1,e2⟩|⟨cx,e1,e2⟩
 ·cases e2;exact ⟨O,P,δ,.ok x,rs,e1,fun v H1 s1 rx=>q v H H1 P .refl s1 rs.dom rs.apart rx⟩
 ·subst e2;exact ⟨O,P,δ,.error cx,rs,e1,fun dx H' s=>q dx H' P (.same s)⟩
noncomputable def nN (f:DS->M DV) (δ:DS):M Out:=bd (f δ) fun _=>rt (.nx δ)
theorem zc (he:PX X E e f) (hs:swapsWith e none pos.line X.env=pure false:=by rfl):ze X E (.Expr e pos) (nN f):=PS.mono (mm he hs) fun T σ H q=>by
 obtain ⟨O,P,δ,r,rs,e,q⟩:=q;rcases az e with ⟨x,e1,e2⟩|⟨cx,e1,e2⟩
 ·cases e2;exact ⟨O,P,δ,.ok x,rs,e1,fun v H1 s1 rx=>q σ H1 P (.same s1) (rs.same s1)⟩
 ·subst e2;exact ⟨O,P,δ,.error cx,rs,e1,fun dx H' s=>q dx H' P (.same s)⟩
noncomputable def vy:DV->Option DV
 |.d x=>some (.d x)
 |.ob C fs=>some (.ob C fs)
 |.fz kvs=>some (.fz kvs)
 |.ex q=>some (.ex q)
 |.scr K ns=>some (.scr K ns)
 |.new xs=>some (.own xs)
 |.own _=>none
 |.tpo _ _ _=>none
 |.nwt p xs q=>some (.tpo p xs q)
@[simp] theorem wX (x:D):vy (.d x)=some (.d x):=rfl
@[simp] theorem tw (C:Addr) (fs:List (Str×D)):vy (.ob C fs)=some (.ob C fs):=rfl
@[simp] theorem qt (xs:List D):vy (.new xs)=some (.own xs):=rfl
@[simp] theorem pP (K:Lb) (ns:List Int):vy (.scr K ns)=some (.scr K ns):=rfl
theorem RS.asg {y:DV} (r:RS O P H σ δ) (s1:aF H H1) (rx:RE O P H H1 x v) (h:vy x=some y) (i:Nat) :
  ∃P',Kp P H P' H1/\RS O P' H1 (σ.set i (some v)) (δ.set i (some y)):=by
 cases x with
 |d z=>cases h; exact ⟨P,.same s1,(r.same s1).set rx (fun _=>nofun) rfl⟩
 |ob C fs=>cases h; exact ⟨P,.same s1,(r.same s1).set rx (fun _=>nofun) rfl⟩
 |fz kvs=>cases h; exact ⟨P,.same s1,(r.same s1).set rx (fun _=>nofun) rfl⟩
 |ex q=>cases h; exact ⟨P,.same s1,(r.same s1).set rx (fun _=>nofun) rfl⟩
 |own xs=>cases h
 |tpo p xs q=>cases h
 |nwt p xs q=>
  cases h;obtain ⟨a,hn,rs⟩:=r.ownT s1 rx (i:=i);refine ⟨a::P,⟨fun b o _ e=>s1 b o e,fun b hb=>?_⟩,rs⟩;rcases Lc.mp hb with z|z
  ·exact .inr (z▸hn)
  ·exact .inl z
 |scr K ns=>cases h; exact ⟨P,.same s1,(r.same s1).set rx (fun _=>nofun) rfl⟩
 |new xs=>
  cases h;obtain ⟨a,hn,rs⟩:=r.own s1 rx (i:=i);refine ⟨a::P,⟨fun b o _ e=>s1 b o e,fun b hb=>?_⟩,rs⟩;rcases Lc.mp hb with z|z
  ·exact .inr (z▸hn)
  ·exact .inl z
noncomputable def aR (i:Nat) (f:DS->M DV) (δ:DS):M Out:=bd (f δ) fun x=>bd (op (vy x)) fun y=>rt (.nx (δ.set i (some y)))
theorem aV {x:Str} {pos':Pos} (hN:X.N.Nodup) (he:PX X E e f) (hi:X.N[i]?=some x:=by rfl) (hx:HW X.env.scope x:=by first|exact Or.inl rfl|exact Or.inr rfl) (hs:swapsWith e (some (.Name x pos')) pos.line X.env=pure false:=by rfl)
  (hf:X.fn x=true\/X.env.scope.names.lookup x=some .local:=by first|exact .inl rfl|exact .inr rfl|assumption):ze X E (.Assign [.Name x pos'] e pos) (aR i f):=PS.mono (BN hN hi hx he hs hf) fun T σ H q=>by
 obtain ⟨O,P,δ,r,rs,e,q⟩:=q;rcases az e with ⟨x,e1,e2⟩|⟨cx,e1,e2⟩
 ·obtain ⟨y,e3,e4⟩:=bQ e2;cases e4;refine ⟨O,P,δ,.ok x,rs,e1,fun v H1 s1 rx=>?_⟩;obtain ⟨P',k,LY⟩:=rs.asg s1 rx e3 i;exact q _ H1 P' k LY
 ·subst e2;exact ⟨O,P,δ,.error cx,rs,e1,fun dx H' s=>q dx H' P (.same s)⟩
noncomputable def Dm (sf:D->DS->Option DS) (f:DS->M DV) (δ:DS):M Out:=bd (f δ) fun x=>bd (op (v9 x)) fun d=>bd (op (sf d δ)) fun δ'=>rt (.nx δ')
theorem BB {tg:Expr} {g:TG} {sf:D->DS->Option DS} (he:PX X E e f) (hg:PG X tg g) (ht:C7 g sf) (hs:swapsWithSole [tg] e pos.line X.env=pure false:=by rfl) (hw:swappedStores [tg] e X.env=pure none:=by rfl)
  (h1:(assignEach [tg] X.env).map (·.2)=[assign tg X.env]:=by rfl):ze X E (.Assign [tg] e pos) (Dm sf f):=PS.mono (G0 he hg hs hw h1) fun T σ H q=>by
 obtain ⟨O,P,δ,r,rs,e,q⟩:=q;rcases az e with ⟨x,e1,e2⟩|⟨cx,e1,e2⟩
 ·obtain ⟨d,e3,e4⟩:=bQ e2;obtain ⟨δ',e5,e6⟩:=bQ e4;cases e6;refine ⟨O,P,δ,.ok x,rs,e1,fun v H1 s1 rx=>?_⟩;exact ht O P H1 σ δ δ' d v _ (rs.same s1) (rx.data rs.dom e3) e5 fun σ' LY=>q σ' H1 P (.same s1) LY
 ·subst e2;exact ⟨O,P,δ,.error cx,rs,e1,fun dx H' s=>q dx H' P (.same s)⟩
noncomputable def Hw (i j:Nat) (fr:DS->M (List DV)) (δ:DS):M Out:=bd (fr δ) fun xs=>bd (op (d3 xs)) fun ds=>match ds with
 |[x,y]=>rt (.nx ((δ.set i (some (.d x))).set j (some (.d y))))
 |_=>none
noncomputable def nE (i:Nat) (f:DS->M DV) (δ:DS):M Out:=match δ[i]? with
 |some (some (.own xs))=>bd (f δ) fun x=>bd (op (v9 x)) fun d=>if xs.length<1000000 then rt (.nx (δ.set i (some (.own (xs++[d]))))) else none
 |_=>none
theorem RS.growG {x':DV} {us:List V} (r:RS O P H σ δ) (e:δ[i]?=some (some x)) (ev:σ[i]?=some (some v)) (o:qX H x v a) (hx:∀xs,x'≠.new xs) (rx:RE O P (bX H a (.lst us)) (bX H a (.lst us)) x' v) (ox:∀b,qX (bX H a (.lst us)) x' v b->b=a) (hP:a∈P) :
  Kp P H P (bX H a (.lst us))/\RS O P (bX H a (.lst us)) σ (δ.set i (some x')):=by
 have hi:i<δ.length:=(Lj.mp e).1;have k:Kp P H P (bX H a (.lst us)):=⟨fun b o hb q=>by rw [aG (show b≠a from fun z=>hb (by rw [z]; exact hP))]; exact q,fun b hb=>.inl hb⟩;have kz:Kp (P++O) H (P++O) (bX H a (.lst us)):=⟨fun b o hb q=>by rw [aG (show b≠a from fun z=>hb (by rw [z]; exact KZ _ hP))]; exact q,fun b hb=>.inl hb⟩;have old:∀(j:Nat) (y:DV) (w:V) (c:Addr),δ[j]?=some (some y)->σ[j]?=some (some w)->qX (bX H a (.lst us)) y w c->qX H y w c:=fun j y w c e q o=>by
  obtain ⟨w',e1,_,r1⟩:=r.at' j _ e;rw [q] at e1;cases e1;exact o.old kz.keep r1
 refine ⟨k,by simp [r.len],fun b hb=>?_,r.apart,fun j y ej=>?_,fun j m y z v1 v2 c e1 e2 e3 e4 o1 o2=>?_⟩
 ·by_cases Mv:b=a
  ·exact ⟨_,by rw [Mv,aW]⟩
  ·rw [aG Mv]; exact r.dom b hb
 ·by_cases hj:i=j
  ·subst hj;rw [List.getElem?_set_self hi] at ej;cases ej;exact ⟨v,ev,hx,rx⟩
  ·rw [List.getElem?_set_ne hj] at ej;obtain ⟨w,e1,e2,e3⟩:=r.at' j y ej;refine ⟨w,e1,e2,?_⟩;have ne:∀c,qX H y w c->c≠a:=fun c oc z=>hj (r.one i j x y v w a e ej ev e1 o (z▸oc));cases y with
   |d y=>exact Rp.kp kz e3
   |ob C fs=>exact Dh.kp kz e3
   |fz kvs=>exact yn.kp kz e3
   |ex q=>exact e3
   |tpo p xs q=>
    obtain ⟨t,b,ps,vs,qs,et,hz,ht,hb,hl,l1,l2,l3⟩:=e3;have Od:b≠a:=ne b ⟨t,_,et,ht,by rw [l1.length,List.getElem?_append_right (K2 _),Nat.sub_self]; rfl⟩;exact ⟨t,b,ps,vs,qs,et,hz,(kz.at hz ht).2,hb,by rw [aG Od]; exact hl,l1.kp kz,l2.kp kz,l3.kp kz⟩
   |nwt p xs q=>exact (BZ.no e3).elim
   |own zs=>
    obtain ⟨b,vs,eb,hPb,hb,hl⟩:=e3;have Od:b≠a:=ne b eb;exact ⟨b,vs,eb,hPb,by rw [aG Od]; exact hb,hl.kp kz⟩
   |new zs=>exact absurd rfl (e2 zs)
   |scr K ns=>
    obtain ⟨b,eb,⟨hz,hb⟩|hk⟩:=e3
    ·have hba:b≠a:=fun z=>hz (by rw [z]; exact KZ _ hP);refine ⟨b,eb,.inl ⟨hz,?_⟩⟩;rcases hb with hb|⟨ob,hb⟩
     ·exact .inl (by rw [aG hba]; exact hb)
     ·exact .inr ⟨ob,by rw [aG hba]; exact hb⟩
    ·exact ⟨b,eb,.inr hk⟩
 ·have nj:∀(j:Nat) (y:DV) (w:V),(δ.set i (some x'))[j]?=some (some y)->σ[j]?=some (some w)->qX (bX H a (.lst us)) y w c->∃y',δ[j]?=some (some y')/\qX H y' w c:=fun j y w ej eq oc=>by
   by_cases hj:i=j
   ·subst hj;rw [List.getElem?_set_self hi] at ej;cases ej;rw [ev] at eq;cases eq;have hc:=ox c oc;exact ⟨x,e,hc▸o⟩
   ·rw [List.getElem?_set_ne hj] at ej; exact ⟨y,ej,old j y w c ej eq oc⟩
  obtain ⟨z1,d1,p1⟩:=nj j _ _ e1 e3 o1;obtain ⟨z2,d2,p2⟩:=nj m _ _ e2 e4 o2;exact r.one j m z1 z2 v1 v2 c d1 d2 e3 e4 p1 p2
theorem RS.grow {ys:List D} {us:List V} (r:RS O P H σ δ) (e:δ[i]?=some (some (.own xs))) (ev:σ[i]?=some (some (.ref a))) (l:RpL (P++O) H ys us) (hP:a∈P) :
  Kp P H P (bX H a (.lst us))/\RS O P (bX H a (.lst us)) σ (δ.set i (some (.own ys))):=by
 have kz:Kp (P++O) H (P++O) (bX H a (.lst us)):=⟨fun b o hb q=>by rw [aG (show b≠a from fun z=>hb (by rw [z]; exact KZ _ hP))]; exact q,fun b hb=>.inl hb⟩;exact r.growG e ev (x:=.own xs) rfl (fun _=>nofun) ⟨a,us,rfl,hP,aW,l.kp kz⟩ (fun b h=>by
  have h':V.ref a=.ref b:=h;cases h'; rfl) hP
theorem tM {o:Expr} {apos F':Pos} (ho:PE X o (ph i)) (he:PX X E e f)
  (L8:attributeBase o "append" X.env (eval o X.env)=eval o X.env:=by rfl)
  (ML:((backTo F' (starEach [e] X.env)).all (fun x=>!x.1)&&(backToKw F' (keywordEach [] X.env)).all (fun x=>x.1.isSome)
   && decide ([e].length+([]:List Keyword).length+(if ([]:List Keyword).isEmpty then 0 else 1)<30))=true:=by rfl)
  (L7:(apos.endLine==F'.line)=true:=by rfl) (hs:starEach [e] X.env=(false,eval e X.env)::starEach [] X.env:=by rfl) (LV:(backTo F' (starEach [] X.env)).any (·.1)=false:=by rfl)
  (N6:swapsWith (.Call (.Attribute o "append" apos) [e] [] F') none pos.line X.env=pure false:=by rfl):ze X E (.Expr (.Call (.Attribute o "append" apos) [e] [] F') pos) (nE i f):=
 PS.mono (mm (vi PySem.F.plainAttrs_list PySem.F.slot_list_append PySem.F.type_list_append sA ho (kG he lP hs) L8 ML L7 hs LV) N6) fun T σ H q=>by
  obtain ⟨O,P,δ,r,rs,e,q⟩:=q;unfold nE at e;split at e
  ·rename_i xs ei;obtain ⟨v,ev,_,a,vs,rfl,hP,ha,l⟩:=rs.at' i _ ei;refine ⟨.ref a,ev,.inl ⟨rfl,_,eN.of ha⟩,?_⟩;rcases az e with ⟨x,e1,e2⟩|⟨cx,e1,e2⟩
   ·obtain ⟨d,e3,e4⟩:=bQ e2;split at e4
    ·rename_i hz;cases e4;refine ⟨O,P,δ,.ok x,rs,e1,fun u H1 s1 rx=>?_⟩;have ru:=rx.data rs.dom e3;have l1:=(l.kp (.same s1)).append (.cons ru .nil);obtain ⟨k,LY⟩:=(rs.same s1).grow ei ev l1 hP;refine ⟨a,vs,u,rfl,rfl,s1 a _ ha,?_,q σ _ P ((Kp.same s1).trans k) LY⟩;rw [<-l.length];exact Lq hz (by rw [sizeLine_eq]; decide)
    ·cases e4
   ·subst e2;exact ⟨O,P,δ,.error cx,rs,e1,fun dx H' s=>q dx H' P (.same s)⟩
  ·cases e
end
theorem Kp.app {P':List Addr} (k:Kp P H P' H'):Kp (P++O) H (P'++O) H':=⟨fun a o ha e=>k.keep a o (fun h=>ha (KZ _ h)) e,fun a ha=>by
 rcases Ld.mp ha with h|h
 ·rcases k.new a h with z|z
  ·exact .inl (KZ _ z)
  ·exact .inr z
 ·exact .inl (KY _ h)⟩
def Ff (O P:List Addr) (H:Hp) (J:It) (xs:List D):Prop:=∀(i:Nat) (P':List Addr) (H':Hp),Kp P H P' H' ->
 (∀d,xs[i]?=some d->J.go i H'/\∀x H2,J.yld i H' x H2->H2=H'/\Rp (P'++O) H' d x)/\(xs.length<=i->J.stop i H')
def KN (E:XK) (O P:List Addr) (H:Hp) (R:It->Hp->Prop):Except Value (List D)->Prop
 |.ok xs=>∀J H',aF H H'->Ff O P H' J xs->R J H'
 |.error c=>∀dx H',aF H H'->E c dx H'
def tI (E:XK) (f:DS->M (List D)):TI:=fun σ H R=>∃O P δ r,RS O P H σ δ/\f δ=some r/\KN E O P H R r
def Dl (X:Cx) (E:XK) (tg iter:Expr) (f:DS->M (List D)):Prop:=PI X tg iter (tI E f)
theorem PI.mono {tg e:Expr} {t t':TI} (h:PI X tg e t) (m:∀σ H R,t' σ H R->t σ H R):PI X tg e t':=fun pins s σ H R I q=>h pins s σ H R I (m σ H R q)
noncomputable def iw (f:DS->M DV) (δ:DS):M (List D):=bd (f δ) fun x=>match v9 x with
 |some (.list xs)=>rt xs
 |_=>none
noncomputable def Hu (f:DS->M DV) (δ:DS):M (List D):=bd (f δ) fun x=>match x with
 |.d (.tuple xs)=>rt xs
 |_=>none
noncomputable def cH (lo:Int) (n:Nat):List D:=(List.range n).map fun (k:Nat)=>PyData.int (lo+(k:Int))
theorem dt (lo:Int) (n:Nat):(cH lo n).length=n:=by simp [cH]
variable {d:D}
theorem BR {lo:Int} (h:(cH lo n)[i]?=some d):i<n/\d=.int (lo+(i:Int)):=by
 have hi:i<n:=by rw [<-dt lo n]; exact (Lj.mp h).1
 refine ⟨hi,?_⟩;unfold cH at h;rw [List.getElem?_map,List.getElem?_range hi] at h;cases h; rfl
noncomputable def lx (fr:DS->M (List DV)) (δ:DS):M (List D):=bd (fr δ) fun xs=>match xs with
 |[.d (.int j)]=>if -(2 ^ 62)<=j/\j<2 ^ 62 then rt (cH 0 j.toNat) else none
 |_=>none
noncomputable def k8 (fr:DS->M (List DV)) (δ:DS):M (List D):=bd (fr δ) fun xs=>match xs with
 |[.d (.int i),.d (.int j)]=>if -(2 ^ 62)<=i/\i<2 ^ 62/\-(2 ^ 62)<=j/\j<2 ^ 62 then rt (cH i (j-i).toNat) else none
 |_=>none
section
variable {X:Cx} {E:XK} {tg e a b:Expr} {f:DS->M DV} {fr:DS->M (List DV)} {p pos:Pos}
theorem vL (lo:Int) (n:Nat):Ff O P H (IQ lo n) (cH lo n):=fun i P' H' k=>by
 refine ⟨fun d hd=>?_,fun h=>?_⟩
 ·obtain ⟨hi,rfl⟩:=BR hd;exact ⟨hi,fun x H2 ⟨e1,e2⟩=>⟨e1,by rw [e2]; exact .int _⟩⟩
 ·rw [dt] at h; exact h
theorem Ei (r:Rp (P++O) H (.list xs) v):∃a,v=.ref a/\(∃vs,eN K H a vs)/\Ff O P H (J7 K a) xs:=by
 cases r with
 |@lst a _ vs hz ha l=>
  refine ⟨a,rfl,⟨vs,eN.of ha⟩,fun i P' H' k=>?_⟩;have Ms:=k.keep a _ (fun h=>hz (KZ _ h)) ha;have l':=l.kp (Kp.app (O:=O) k);refine ⟨fun d hd=>?_,fun h=>⟨vs,eN.of Ms,by rw [<-l.length]; exact h⟩⟩;obtain ⟨x,hx,rx⟩:=l'.get hd;refine ⟨⟨vs,x,eN.of Ms,hx⟩,fun y H2 ⟨e1,e2⟩=>⟨e1,?_⟩⟩;have:=e2 vs (eN.of Ms);rw [hx] at this;cases this; exact rx
theorem HB (r:Rp (P++O) H (.tuple xs) v):∃a,v=.ref a/\(∃vs,kM K H a vs)/\Ff O P H (JA K a) xs:=by
 cases r with
 |@tup a _ vs hz ha l=>
  refine ⟨a,rfl,⟨vs,kM.of ha⟩,fun i P' H' k=>?_⟩;have Ms:=k.keep a _ (fun h=>hz (KZ _ h)) ha;have l':=l.kp (Kp.app (O:=O) k);refine ⟨fun d hd=>?_,fun h=>⟨vs,kM.of Ms,by rw [<-l.length]; exact h⟩⟩;obtain ⟨x,hx,rx⟩:=l'.get hd;refine ⟨⟨vs,x,kM.of Ms,hx⟩,fun y H2 ⟨e1,e2⟩=>⟨e1,?_⟩⟩;have:=e2 vs (kM.of Ms);rw [hx] at this;cases this; exact rx
theorem dG (he:PX X E e f):Dl X E tg e (iw f):=PI.mono (yV he) fun σ H R q=>by
 obtain ⟨O,P,δ,r,rs,e,q⟩:=q;rcases az e with ⟨x,e1,e2⟩|⟨cx,e1,e2⟩
 ·refine ⟨O,P,δ,.ok x,rs,e1,fun v H1 s1 rx=>?_⟩;split at e2
  ·rename_i xs h;cases e2;obtain ⟨a,rfl,h1,h2⟩:=Ei (K:=X.K) (rx.data rs.dom h);exact ⟨a,rfl,h1,q _ H1 s1 h2⟩
  ·cases e2
 ·subst e2;exact ⟨O,P,δ,.error cx,rs,e1,q⟩
theorem Bj (he:PX X E e f):Dl X E tg e (Hu f):=PI.mono (Hm he) fun σ H R q=>by
 obtain ⟨O,P,δ,r,rs,e,q⟩:=q;rcases az e with ⟨x,e1,e2⟩|⟨cx,e1,e2⟩
 ·refine ⟨O,P,δ,.ok x,rs,e1,fun v H1 s1 rx=>?_⟩;split at e2
  ·cases e2;obtain ⟨a,rfl,h1,h2⟩:=HB (K:=X.K) rx;exact ⟨a,rfl,h1,q _ H1 s1 h2⟩
  ·cases e2
 ·subst e2;exact ⟨O,P,δ,.error cx,rs,e1,q⟩
theorem iB (hm:X.mg "range" = none) (ha:vg X E [a] fr) (hg:Gl X "range" :=by rfl) (hs:starEach [a] X.env=[(false,eval a X.env)]:=by rfl):Dl X E tg (.Call (.Name "range" p) [a] [] pos) (lx fr):=PI.mono (zX hg hm ha hs) fun σ H R q=>by
 obtain ⟨O,P,δ,r,rs,e,q⟩:=q;rcases az e with ⟨xs,e1,e2⟩|⟨cx,e1,e2⟩
 ·refine ⟨O,P,δ,.ok xs,rs,e1,fun vs H1 s1 rx=>?_⟩;split at e2
  ·split at e2
   ·rename_i h;cases e2;cases rx with
    |cons r1 rr=>
     cases rr;cases r1;exact ⟨_,rfl,h.1,h.2,q _ H1 s1 (vL 0 _)⟩
   ·cases e2
  ·cases e2
 ·subst e2;exact ⟨O,P,δ,.error cx,rs,e1,q⟩
theorem kg (hm:X.mg "range" = none) (ha:vg X E [a,b] fr) (hg:Gl X "range" :=by rfl) (hs:starEach [a,b] X.env=[(false,eval a X.env),(false,eval b X.env)]:=by rfl) (M3:starEach [b] X.env=[(false,eval b X.env)]:=by rfl) :
  Dl X E tg (.Call (.Name "range" p) [a,b] [] pos) (k8 fr):=PI.mono (zM hg hm ha hs M3) fun σ H R q=>by
 obtain ⟨O,P,δ,r,rs,e,q⟩:=q;rcases az e with ⟨xs,e1,e2⟩|⟨cx,e1,e2⟩
 ·refine ⟨O,P,δ,.ok xs,rs,e1,fun vs H1 s1 rx=>?_⟩;split at e2
  ·split at e2
   ·rename_i h;cases e2;cases rx with
    |cons r1 rr=>
     cases rr with
     |cons r2 rr=>
      cases rr;cases r1;cases r2;exact ⟨_,_,rfl,h,q _ H1 s1 (vL _ _)⟩
   ·cases e2
  ·cases e2
 ·subst e2;exact ⟨O,P,δ,.error cx,rs,e1,q⟩
end
noncomputable def Km (G:DS->M Out) (o:Out):M Out:=match o with
 |.nx δ=>G δ
 |.ct δ=>G δ
 |.bk δ=>rt (.nx δ)
 |.rt x=>rt (.rt x)
@[simp] theorem pD (G:DS->M Out) (δ:DS):Km G (.nx δ)=G δ:=rfl
noncomputable def dU (sf:D->DS->Option DS) (B:DS->M Out):List D->DS->M Out
 |[],δ=>rt (.nx δ)
 |d::r,δ=>bd (op (sf d δ)) fun δ1=>bd (B δ1) (Km (dU sf B r))
noncomputable def b9 (fi:DS->M (List D)) (sf:D->DS->Option DS) (B:DS->M Out) (δ:DS):M Out:=bd (fi δ) fun xs=>dU sf B xs δ
section
variable {X:Cx} {E:XK} {tg iter:Expr} {body:List Stmt} {fi:DS->M (List D)} {g:TG} {sf:D->DS->Option DS} {B:DS->M Out} {pos:Pos}
theorem dR (hp:PassesOwn (model X.prog X.w) X.A X.env X.xe) (hc:X.calm=true) (hi:Dl X E tg iter fi) (hg:PG X tg g) (ht:C7 g sf) (hb:Aw X E body B)
  (hs:∀x,foldedSetIterable iter X.env x=pure x:=by intro _; rfl):ze X E (.For tg iter body [] pos) (b9 fi sf B):=PS.mono (ub hp hc hi hg hb hs) fun T σ H q=>by
 obtain ⟨O,P,δ,r,rs,e,q⟩:=q;rcases az e with ⟨xs,e1,e2⟩|⟨cx,e1,e2⟩
 ·refine ⟨O,P,δ,.ok xs,rs,e1,fun J H1 s1 it=>?_⟩;refine ⟨fun i m σ' H'=>m=xs.length-i/\i<=xs.length/\∃P' δ',Kp P H1 P' H'/\RS O P' H' σ' δ'/\dU sf B (xs.drop i) δ'=some r,⟨xs.length,0x4,Lo _,P,δ,.refl,rs.same s1,e2⟩,?_⟩;rintro i m σ' H' ⟨rfl,hi,P',δ',k,LY,el⟩;have q':=q.on ((Kp.same s1).trans k);by_cases LM:i<xs.length
  ·obtain ⟨go,yl⟩:=(it i P' H' k).1 xs[i] (by simp [LM]);refine .inr ⟨go,fun σ2 H2=>∃P2 δ2,Kp P H1 P2 H2/\RS O P2 H2 σ2 δ2/\dU sf B (xs.drop (i+1)) δ2=some r,fun σ2 H2 ⟨P2,δ2,h1,h2,h3⟩=>⟨xs.length-(i+1),0x1,rfl,LM,P2,δ2,h1,h2,h3⟩,fun x H2 hy=>?_⟩;obtain ⟨rfl,rx⟩:=yl x H2 hy;rw [List.drop_eq_getElem_cons LM] at el;obtain ⟨δ1,e3,e4⟩:=bQ el;refine ht O P' H2 σ' δ' δ1 _ x _ LY rx e3 fun σ1 LC=>?_;rcases az e4 with ⟨o,e5,e6⟩|⟨cx,e5,e6⟩
   ·refine ⟨O,P',δ1,.ok o,LC,e5,?_⟩;cases o with
    |nx δ2=>exact fun σ2 H3 P2 k2 ND=>⟨P2,δ2,k.trans k2,ND,e6⟩
    |ct δ2=>exact fun σ2 H3 P2 k2 ND=>⟨P2,δ2,k.trans k2,ND,e6⟩
    |bk δ2=>cases e6; exact q'
    |rt y=>cases e6; exact q'
   ·subst e6;exact ⟨O,P',δ1,.error cx,LC,e5,q'⟩
  ·have Mu:i=xs.length:=by lia
   subst Mu;rw [List.drop_length] at el;cases el;exact .inl ⟨(it _ P' H' k).2 (K2 _),q' σ' H' P' .refl LY⟩
 ·subst e2;exact ⟨O,P,δ,.error cx,rs,e1,fun dx H' s=>q dx H' P (.same s)⟩
end
noncomputable def cj (k:Nat) (js:List Nat) (δ:DS):DS:=List.replicate k none++js.map fun j=>(δ[j]?).join
theorem ud {o:Option (Option α)} {x:α} (h:o.join=some x):o=some (some x):=by
 cases o with
 |none=>cases h
 |some z=>simp only [Option.join] at h; rw [<-h]; rfl
variable {σ:St}
theorem RS.block (r:RS O P H σ δ) (k:Nat) (js:List Nat) (hj:js.Nodup):RS O P H (jY k js σ) (cj k js δ):=by
 have at0:∀(i:Nat) (x:DV),(cj k js δ)[i]?=some (some x)->k<=i/\∃j,js[i-k]?=some j/\δ[j]?=some (some x):=fun i x h=>by
  unfold cj at h;by_cases hi:i<k
  ·rw [List.getElem?_append_left (by simpa using hi),List.getElem?_replicate] at h;split at h <;> cases h
  ·rw [List.getElem?_append_right (by simpa using hi),List.length_replicate,List.getElem?_map] at h;cases e:js[i-k]? with
   |none=>rw [e] at h; cases h
   |some j=>
    rw [e] at h;exact ⟨0x1,j,rfl,ud (Lw h)⟩
 have sg:∀(i j:Nat),k<=i->js[i-k]?=some j->(jY k js σ)[i]?=some ((σ[j]?).join):=fun i j hi e=>by
  unfold jY;rw [List.getElem?_append_right (by simpa using hi),List.length_replicate,List.getElem?_map,e];rfl
 refine ⟨by unfold jY cj; simp,r.dom,r.apart,fun i x h=>?_,fun i j x y v w c h1 h2 h3 h4 o1 o2=>?_⟩
 ·obtain ⟨hi,j,ej,ed⟩:=at0 i x h;obtain ⟨v,e1,e2,e3⟩:=r.at' j x ed;exact ⟨v,by rw [sg i j hi ej,e1]; rfl,e2,e3⟩
 ·obtain ⟨hi,i',ei,di⟩:=at0 i _ h1;obtain ⟨NV,j',ej,dj⟩:=at0 j _ h2;rw [sg i i' hi ei] at h3;rw [sg j j' NV ej] at h4;have:=r.one i' j' x y v w c di dj (ud (Lw h3)) (ud (Lw h4)) o1 o2;subst this;obtain ⟨l1,g1⟩:=Lj.mp ei;obtain ⟨l2,g2⟩:=Lj.mp ej;have:=(List.getElem_inj hj).mp (g1.trans g2.symm);lia
noncomputable def cB (sf:D->DS->Option DS) (gc:DS->M Bool) (fe:DS->M DV) (δ:DS):List D->Option (List D)
 |[]=>some []
 |d::r=>match sf d δ with
  |none=>none
  |some δ1=>match gc δ1 with
   |some (.ok false)=>cB sf gc fe δ r
   |some (.ok true)=>match fe δ1 with
    |some (.ok y)=>match v9 y,cB sf gc fe δ r with
     |some z,some zs=>some (z::zs)
     |_,_=>none
    |_=>none
   |_=>none
noncomputable def bA (_:DS):M Bool:=rt true
noncomputable def aK (k:Nat) (js:List Nat) (fi:DS->M (List D)) (sf:D->DS->Option DS) (gc:DS->M Bool) (fe:DS->M DV) (δ:DS):M DV:=bd (fi δ) fun xs=>if xs.length<=1000000 then bd (op (cB sf gc fe (cj k js δ) xs)) fun ys=>rt (.new ys) else none
theorem cz:PF X [] (zm E0 bA):=fun pins s σ H Q I q=>FZ pins s σ H Q I (by
 obtain ⟨O,P,δ,r,rs,e,q⟩:=q;cases e;exact q H (aF.refl H))
theorem kx {sf:D->DS->Option DS} {gc:DS->M Bool} {fe:DS->M DV} {δ:DS}:∀{xs ys:List D},cB sf gc fe δ xs=some ys->ys.length<=xs.length
 |[],ys,h=>by cases h; simp
 |d::r,ys,h=>by
  unfold cB at h;split at h
  ·cases h
  ·split at h
   ·have:=kx (xs:=r) h;simp; lia
   ·split at h
    ·split at h
     ·rename_i z zs e1 e2;cases h;have:=kx (xs:=r) e2;simp; lia
     ·cases h
    ·cases h
   ·cases h
section
variable {X:Cx} {E:XK} {k:Nat} {js:List Nat} {N':List Str} {scope:Scope} {elt tg iter:Expr} {ifs:List Expr} {pos:Pos} {fi:DS->M (List D)} {g:TG} {sf:D->DS->Option DS} {gc:DS->M Bool} {fe:DS->M DV}
theorem rK (hj:js.Nodup) (ht:C7 g sf) (LR:∀δ d δ1,sf d (cj k js δ)=some δ1->Sub (cj k js δ) δ1) (q:tE E (aK k js fi sf gc fe) σ H Q):vU (tI E fi) k js g (zm E0 gc) (tE E0 fe) σ H Q:=by
 obtain ⟨O,P,δ,r,rs,e,q⟩:=q;rcases az e with ⟨xs,e1,e2⟩|⟨cx,e1,e2⟩
 ·refine ⟨O,P,δ,.ok xs,rs,e1,fun J H1 s1 it=>?_⟩;split at e2
  ·rename_i hz;obtain ⟨ys,e3,e4⟩:=bQ e2;cases e4;have hlen:=kx e3;refine ⟨fun i m σ' H' vs=>m=xs.length-i/\i<=xs.length/\aF H1 H'/\RS O P H' σ' (cj k js δ)/\∃ds es,RpL (P++O) H' ds vs/\cB sf gc fe (cj k js δ) (xs.drop i)=some es/\ys=ds++es,
    ⟨xs.length,0x4,Lo _,aF.refl H1,(rs.same s1).block k js hj,[],ys,.nil,e3,rfl⟩,?_⟩
   rintro i m σ' H' vs ⟨rfl,hi,sH,LY,ds,es,l,ec,ey⟩;have hvl:vs.length<=ys.length:=by rw [ey,<-l.length]; simp
   by_cases LM:i<xs.length
   ·refine .inr ?_;rw [List.drop_eq_getElem_cons LM] at ec;unfold cB at ec;obtain ⟨go,yl⟩:=(it i P H' (.same sH)).1 xs[i] (by simp [LM]);split at ec
    ·cases ec
    ·rename_i δ1 e5;refine ⟨go,Nat.lt_of_le_of_lt (Lp hvl (Lp hlen hz)) (by rw [sizeLine_eq]; decide),fun x H2 hy=>?_⟩;obtain ⟨rfl,rx⟩:=yl x H2 hy;refine ht O P H2 σ' _ δ1 _ x _ LY rx e5 fun σ1 LC=>?_;have Oc:=LR δ _ δ1 e5;split at ec
     ·rename_i e6;refine ⟨O,P,δ1,.ok false,LC,e6,fun H3 s3=>?_⟩;exact Ac ⟨xs.length-(i+1),0x1,rfl,LM,sH.trans s3,(LC.same s3).forget Oc,ds,es,l.kp (.same s3),ec,ey⟩
     ·rename_i e6;refine ⟨O,P,δ1,.ok true,LC,e6,fun H3 s3=>?_⟩;refine z5 ?_;split at ec
      ·rename_i y e7;split at ec
       ·rename_i z zs e8 e9;cases ec;refine ⟨O,P,δ1,.ok y,LC.same s3,e7,fun v H4 s4 ry=>?_⟩;refine ⟨xs.length-(i+1),0x1,rfl,LM,sH.trans (s3.trans s4),(LC.same (s3.trans s4)).forget Oc,ds++[z],zs,(l.kp (.same (s3.trans s4))).append (.cons (ry.data (LC.same s3).dom e8) .nil),e9,?_⟩;rw [ey,List.append_assoc]; rfl
       ·cases ec
      ·cases ec
     ·cases ec
   ·have Mu:i=xs.length:=by lia
    subst Mu;rw [List.drop_length] at ec;cases ec;refine .inl ⟨(it _ P H' (.same sH)).2 (K2 _),Lp hvl (line_big (Lp hlen hz)),fun p hp=>?_⟩;rw [ey,List.append_nil] at q;exact q _ _ ((s1.trans sH).trans (bw hp)) (RE.made (s1.trans sH) hp l)
  ·cases e2
 ·subst e2;exact ⟨O,P,δ,.error cx,rs,e1,q⟩
theorem bF (S:CompFit X k js N' scope) (hj:js.Nodup) (hc:X.calm=true) (hi:Dl X E tg iter fi) (ht:C7 g sf) (LR:∀δ d δ1,sf d (cj k js δ)=some δ1->Sub (cj k js δ) δ1)
  (hg:∀C s₂ H₂ fp,PG (aQ X N' scope C s₂ H₂ fp) tg g) (hf:∀C s₂ H₂ fp,PF (aQ X N' scope C s₂ H₂ fp) ifs (zm E0 gc)) (he:∀C s₂ H₂ fp,PX (aQ X N' scope C s₂ H₂ fp) E0 elt fe)
  (hs:∀x,foldedSetIterable iter X.env x=pure x:=by intro _; rfl):PX X E (.ListComp elt [⟨tg,iter,ifs,0⟩] scope pos) (aK k js fi sf gc fe):=
 PE.mono (zf S hc hi hg hf he hs) fun σ H Q q=>rK hj ht LR q
end
noncomputable def mS (N:List Str) (xs:List DV):DS:=xs.map some++List.replicate (N.length-xs.length) none
noncomputable def res:DV->DV
 |.own xs=>.new xs
 |.tpo p xs q=>.nwt p xs q
 |x=>x
@[simp] theorem Bu (x:D):res (.d x)=.d x:=rfl
@[simp] theorem ug (xs:List D):res (.own xs)=.new xs:=rfl
@[simp] theorem tj (xs:List D):res (.new xs)=.new xs:=rfl
@[simp] theorem wG (C:Addr) (fs:List (Str×D)):res (.ob C fs)=.ob C fs:=rfl
noncomputable def zY:Out->M DV
 |.rt x=>rt (res x)
 |.nx _=>rt (.d .none)
 |_=>none
@[simp] theorem s9 (x:DV):zY (.rt x)=rt (res x):=rfl
@[simp] theorem uC (δ:DS):zY (.nx δ)=rt (.d .none):=rfl
noncomputable def eE (N:List Str) (F:DS->M Out) (xs:List DV):M DV:=bd (F (mS N xs)) zY
theorem RS.start {N:List Str} {O:List Addr} {H:Hp} {xs:List DV} {vs:List V} (dom:∀a,a∈O->∃o,H a=some o) (r:lU O [] H H xs vs):RS O [] H (L2.start N vs) (mS N xs):=by
 have hl:xs.length=vs.length:=Paired.length r;have at0:∀(i:Nat) (x:DV),(mS N xs)[i]?=some (some x)->xs[i]?=some x:=fun i x h=>by
  unfold mS at h;by_cases hi:i<xs.length
  ·rw [List.getElem?_append_left (by simpa using hi),List.getElem?_map] at h;cases e:xs[i]? with
   |none=>rw [e] at h; cases h
   |some y=>rw [e] at h; cases h; rfl
  ·rw [List.getElem?_append_right (by simpa using hi),List.getElem?_replicate] at h;split at h <;> cases h
 have gets:∀{xs:List DV} {vs:List V},lU O [] H H xs vs->∀(i:Nat) (x:DV),xs[i]?=some x->∃v,vs[i]?=some v/\RE O [] H H x v:=by
  intro xs vs r
  induction r with
  |nil=>intro i x h; simp at h
  |cons r1 _ ih=>
   intro i x h;cases i with
   |zero=>simp at h; subst h; exact ⟨_,rfl,r1⟩
   |succ i=>simpa using ih i x (by simpa using h)
 have sv:∀(i:Nat) (v:V),vs[i]?=some v->(L2.start N vs)[i]?=some (some v):=fun i v h=>by
  have hi:i<vs.length:=(Lj.mp h).1;unfold L2.start;rw [List.getElem?_append_left (by simpa using hi),List.getElem?_map,h]; rfl
 refine ⟨by unfold L2.start mS; simp [hl],fun a ha=>dom a ha,fun a ha=>(by cases ha),fun i x h=>?_,fun i j y z v w c h1 h2 h3 h4 o1 o2=>?_⟩
 ·obtain ⟨v,e1,e2⟩:=gets r i x (at0 i x h);refine ⟨v,sv i v e1,fun ys hx=>?_,e2⟩;subst hx;obtain ⟨a,us,_,hn,ha,_⟩:=e2;rw [hn] at ha; cases ha
 ·obtain ⟨v',e1,e2⟩:=gets r i _ (at0 i _ h1);rw [sv i v' e1] at h3;cases h3;cases o1.new e2
theorem RE.out {P':List Addr} (k:Kp [] H P' H1) (s:aF H1 H') (r:RE O P' H1 H' x v):aF H H'/\RE O [] H H' (res x) v:=by
 have sH:aF H H':=fun b o e=>s b o (k.keep b o 0x4 e);have sub:∀a,a∈([]:List Addr)++O->a∈P'++O:=fun a ha=>KY _ ha;refine ⟨sH,?_⟩;cases x with
 |d x=>exact Rp.kp (.sub sub) r
 |ob C fs=>exact Dh.kp (.sub sub) r
 |fz kvs=>exact yn.kp (.sub sub) r
 |ex q=>exact r
 |tpo p xs q=>
  obtain ⟨t,a,ps,vs,qs,e,hz,ht,hP,ha,l1,l2,l3⟩:=r;have sb:∀b,b∈a::([]++O)->b∈P'++O:=fun b hb=>by
   rcases Lc.mp hb with z|z
   ·exact KZ _ (z▸hP)
   ·exact sub b z
  refine ⟨t,a,ps,vs,qs,e,fun h=>hz (sb t h),ht,?_,ha,l1.kp (.sub sb),l2.kp (.sub sb),l3.kp (.sub sb)⟩;rcases k.new a hP with z|z
  ·cases z
  ·exact z
 |nwt p xs q=>
  obtain ⟨t,a,ps,vs,qs,e,hz,ht,hn,ha,l1,l2,l3⟩:=r;have sb:∀b,b∈a::([]++O)->b∈a::(P'++O):=fun b hb=>by
   rcases Lc.mp hb with z|z
   ·exact z▸KU
   ·exact KS _ (sub b z)
  refine ⟨t,a,ps,vs,qs,e,fun h=>hz (sb t h),ht,?_,ha,l1.kp (.sub sb),l2.kp (.sub sb),l3.kp (.sub sb)⟩;cases q:H a with
  |none=>rfl
  |some o=>rw [k.keep a o 0x4 q] at hn; cases hn
 |own xs=>
  obtain ⟨a,vs,e,hP,ha,l⟩:=r;refine ⟨a,vs,e,?_,ha,l.kp (.sub fun b hb=>?_)⟩
  ·rcases k.new a hP with z|z
   ·cases z
   ·exact z
  ·rcases Lc.mp hb with z|z
   ·exact KZ _ (z▸hP)
   ·exact sub b z
 |new xs=>
  obtain ⟨a,vs,e,hn,ha,l⟩:=r;refine ⟨a,vs,e,?_,ha,l.kp (.sub fun b hb=>?_)⟩
  ·cases q:H a with
   |none=>rfl
   |some o=>rw [k.keep a o 0x4 q] at hn; cases hn
  ·rcases Lc.mp hb with z|z
   ·exact z▸KU
   ·exact KS _ (sub b z)
 |scr K ns=>
  obtain ⟨a,e,hz⟩:=r;exact ⟨a,e,hz.imp (fun z=>⟨fun h=>z.1 (sub a h),z.2⟩) fun z=>z⟩
section
variable {P:Program} {w:World} {K:Lb} {mg:Str->Option Value} {base:Heap}
theorem lT {x qual:Str} {f:Addr} {fd:FuncData} {N ps:List Str} {k:Nat} {F:DS->M Out} (Fu:Fun K x qual st f fd) (S:FnScope N ps (ak st)) (hn:ps.length=n)
  (body:∀(LD:Value) (A:Around) (outer:List Env) (s:Shared) (H:Hp) (E:XK),Room k (A.deeper (envOfC qual (ak st) s.heap.objs.size f LD)) ->
   Aw (fj uH P w K mg base N qual (ak st) f LD A outer s H E).nox E0 (dD st) F):FnOk P w K mg base uH (k+1) f fd ps (Ep n (eE N F)):=by
 refine Fu.ok S (fun vs H Q E h=>h.1.trans hn.symm) fun LD A outer s H vs Q E hr MK=>⟨_,body LD A outer s H E hr,?_⟩;obtain ⟨_,O,xs,x,dom,rx,e,q⟩:=MK;rcases az e with ⟨o,e1,e2⟩|⟨c,_,e2⟩
 ·refine ⟨O,[],mS N xs,.ok o,RS.start dom rx,e1,?_⟩;cases o with
  |rt y=>
   cases e2;intro v H1 H' P' k' s' _ _ ry;obtain ⟨sH,ry'⟩:=ry.out k' s';exact q v H' sH ry'
  |nx δ=>
   cases e2;intro σ' H' P' k' _;exact q .non H' (fun b o e=>k'.keep b o 0x4 e) .none
  |bk δ=>cases e2
  |ct δ=>cases e2
 ·cases e2
end
section
variable {X:Cx} {E:XK} {o e:Expr} {fo fe:DS->M DV}
noncomputable def pB:List D->Option (List Bool)
 |[]=>some []
 |.bool b::r=>(pB r).map (b::·)
 |_::_=>none
theorem sr:∀{xs:List D} {bs:List Bool},pB xs=some bs->xs=bs.map PyData.bool
 |[],bs,h=>by cases h; rfl
 |x::r,bs,h=>by
  cases x with
  |bool b=>
   unfold pB at h;cases e:pB r with
   |none=>rw [e] at h; cases h
   |some cs=>rw [e] at h; cases h; rw [sr e]; rfl
  |_=>cases h
theorem Ak (bs:List Bool):pB (bs.map PyData.bool)=some bs:=by
 induction bs with
 |nil=>rfl
 |cons b r ih=>rw [List.map_cons,pB,ih]; rfl
noncomputable def oi (xs:List DV):M DV:=match xs with
 |[x]=>bd (op (k7 x)) fun ys=>bd (op (pB ys)) fun bs=>rt (.d (.bool (bs.all id)))
 |_=>none
theorem qr {Z:List Addr} {H:Hp}:∀{bs:List Bool} {vs:List V} {us:List Value},RpL Z H (bs.map PyData.bool) vs->aX vs us->us=bs.map Value.bool
 |[],_,_,.nil,.nil=>rfl
 |b::r,_,_,.cons p l,.cons q t=>by
  cases p;cases q;rw [List.map_cons,qr l t]
theorem zw (bs:List Bool):((List.range bs.length).all fun i=>(bs[i]?).getD true)=bs.all id:=by
 induction bs with
 |nil=>rfl
 |cons b r ih=>
  rw [List.length_cons,List.range_succ_eq_map,List.all_cons,List.all_map,List.all_cons];have:(r.all id)=((List.range r.length).all fun i=>(r[i]?).getD true):=ih.symm;rw [this];congr 1
theorem j4 (hc:X.calm=true):d4 X E (.builtin "all") oi:=fun pins s σ O P H₀ H xs vs us r Q I hd hs rx rv e q=>by
 unfold oi at e;split at e
 ·obtain ⟨ys,e1,e2⟩:=bQ e;obtain ⟨bs,e3,e4⟩:=bQ e2;cases e4;cases rx with
  |cons r1 rr=>
   cases rr;obtain ⟨a,ws,rfl,ha,l⟩:=r1.list e1;cases rv with
   |cons q1 q2=>
    cases q2;cases q1;have hys:=sr e3;subst hys;obtain ⟨B',ri,pl,hz⟩:=I.list (eN.of ha);have hits:=qr l ri;have LM:a<s.heap.objs.size:=by obtain ⟨_,e',_⟩:=pl.isList; exact K5 e'
    have Np:=pl.isList;refine call_all_walk (wpAny_pyIter_list Np ?_);refine ⟨s.heap.objs.size,[s.heap.objs.size,a],[s.heap.objs.size],B'.toArray.size,_,_,fun i=>(bs[i]?).getD true,rfl,Walks.list (A:=X.A.in1) (I.ok.hd hc) _ a (Lu LM) B'.toArray,
     ⟨⟨_,Lv _ rfl,rfl,rfl⟩,Np.push _⟩,fun i v s' Q' E' hP hQ=>?_,fun h' tk hk=>?_⟩
    ·have hv:(bs[i]?).map Value.bool=some v:=by
      have Oa:B'.toArray[i]?=some v:=hP;rw [<-Oa,hits]; simp
     cases eb:bs[i]? with
     |none=>rw [eb] at hv; cases hv
     |some b=>
      rw [eb] at hv;cases hv;simp only [eb,Option.getD_some] at hQ;exact wpAny_truthy_bool hQ
    ·have hn:B'.toArray.size=bs.length:=by rw [hits]; simp
     rw [hn,zw];refine ⟨.bl _,H,I.kept (t':=tk) fun b ob eb=>hk b ob (fun hm=>?_) (KW _ eb),rfl,q _ H (aF.refl H) (.bool _)⟩;rw [Lg.mp hm] at eb;exact Nat.lt_irrefl _ (K5 eb)
 ·cases e
noncomputable def tW (x y:DV):M DV:=match k7 x,mR y with
 |some xs,some d=>if d.depth<=60 then rt (.d (.int (xs.countP fun z=>PyData.eqv z d))) else none
 |_,_=>none
noncomputable def k9 (fo fe:DS->M DV) (δ:DS):M DV:=bd (fo δ) fun x=>bd (op (k7 x)) fun _=>bd (fe δ) fun y=>tW x y
def J3 (E:XK) (x:V) (vs:List V) (H:Hp) (Q:VK):Prop:=∃O P H₀ dx dy v r,vs=[v]/\RE O P H₀ H dx x/\RE O P H₀ H dy v/\tW dx dy=some r/\Fn E O P H₀ H Q r
theorem B8 (hu:X.A.units+64<cLine):JF X "list.count" (J3 E):=fun pins s σ H x xs v us Q I rx rs h=>by
 obtain ⟨O,P,H₀,dx,dy,w,r,rfl,r1,r2,e,q⟩:=h;obtain ⟨u,rfl,ru⟩:=pq rs;unfold tW at e;split at e
 ·rename_i ys d h1 h2;split at e
  ·rename_i Nv;cases e;obtain ⟨a,ws,rfl,ha,l⟩:=r1.list h1;cases rx;obtain ⟨⟨as,ra⟩,la⟩:=r2.reads I ru h2;obtain ⟨B',ri,pl,hz⟩:=I.list (eN.of ha);obtain ⟨bs,rb⟩:=RpL.reads I l ri;obtain ⟨⟨cls,dd,data,sl⟩,ho,hc,n,hd⟩:=pl.isList;simp only at hc hd;subst hc hd;refine call_meets PySem.F.slot_list_count ⟨_,ho,rfl⟩ PySem.F.entry_list_count (PySem.F.args_list_count_2 _ _) (SeqAt.list_countAt a B'.toArray n dd sl u fun y=>PyData.eqv (SeqAt.readOf s.heap y) d)
    ⟨ho,SeqAt.items_eqAt (vs:=B'.toArray) rb ra l.lay la (by have:=Nat.min_le_right (PyData.depthAll ys) d.depth; lia),?_⟩
   have OC:B'.toArray.toList.countP (fun y=>PyData.eqv (SeqAt.readOf s.heap y) d)=ys.countP fun z=>PyData.eqv z d:=by
    rw [<-SeqAt.readsAll_map ys _ _ l.lay rb,List.countP_map]; rfl
   rw [OC];exact ⟨.int _,H,I.tok _,⟨_,rfl⟩,q _ H (aF.refl H) (.int _)⟩
  ·cases e
 ·cases e
theorem mn {apos F':Pos} (hu:X.A.units+64<cLine) (ho:PX X E o fo) (he:PX X E e fe)
  (L8:attributeBase o "count" X.env (eval o X.env)=eval o X.env:=by rfl)
  (ML:((backTo F' (starEach [e] X.env)).all (fun x=>!x.1)&&(backToKw F' (keywordEach [] X.env)).all (fun x=>x.1.isSome)
   && decide ([e].length+([]:List Keyword).length+(if ([]:List Keyword).isEmpty then 0 else 1)<30))=true:=by rfl)
  (L7:(apos.endLine==F'.line)=true:=by rfl) (hs:starEach [e] X.env=(false,eval e X.env)::starEach [] X.env:=by rfl) (LV:(backTo F' (starEach [] X.env)).any (·.1)=false:=by rfl) :
  PX X E (.Call (.Attribute o "count" apos) [e] [] F') (k9 fo fe):=
 PE.mono (vi PySem.F.plainAttrs_list PySem.F.slot_list_count PySem.F.type_list_count (B8 (E:=E) hu) ho (kG he lP hs) L8 ML L7 hs LV) fun σ H Q q=>
  kR (g:=fun δ x=>bd (op (k7 x)) fun _=>bd (fe δ) fun y=>tW x y) q fun O P δ x r v H1 rs LC s1 rx e q=>by
   obtain ⟨ys,h1,e⟩:=bQ e;obtain ⟨a,ws,rfl,ha,_⟩:=rx.list h1;refine ⟨.inl ⟨rfl,_,eN.of ha⟩,?_⟩;rcases az e with ⟨y,e1,e2⟩|⟨c,e1,e2⟩
   ·exact ⟨O,P,δ,.ok y,LC,e1,fun u H2 s2 ry=>⟨O,P,H,x,y,u,r,rfl,rx.on s2,ry.from s1,e2,q.on s2⟩⟩
   ·subst e2;exact ⟨O,P,δ,.error c,LC,e1,q⟩
end
open PySem.W (KasT kas_asc kas_desc kas_tail3 kas_descPart kas_count kas_place kas_bin kas_sort kas_rev)
noncomputable abbrev ll:=HT.lexLt
theorem eH:∀a:List Int,ll a a=false
 |[]=>rfl
 |x::r=>by
  show HT.lexLt (x::r) (x::r)=false;rw [HT.lexLt_cons,if_pos rfl];exact eH r
theorem jQ:∀{a b:List Int},ll a b=false->ll b a=false->a=b
 |[],[],_,_=>rfl
 |[],_::_,h,_=>by cases h
 |_::_,[],_,h=>by cases h
 |x::xs,y::ys,h1,h2=>by
  have e1:HT.lexLt (x::xs) (y::ys)=false:=h1;have e2:HT.lexLt (y::ys) (x::xs)=false:=h2;rw [HT.lexLt_cons] at e1 e2;by_cases h:x=y
  ·subst h;rw [if_pos rfl] at e1 e2;rw [jQ e1 e2]
  ·rw [if_neg h] at e1;rw [if_neg (Ne.symm h)] at e2;have:=of_decide_eq_false e1;have:=of_decide_eq_false e2;lia
theorem mQ:∀{a b c:List Int},ll a b=true->ll b c=true->ll a c=true
 |[],[],_,h,_=>by cases h
 |[],_::_,[],_,h=>by cases h
 |[],_::_,_::_,_,_=>rfl
 |_::_,[],_,h,_=>by cases h
 |_::_,_::_,[],_,h=>by cases h
 |x::xs,y::ys,z::zs,h1,h2=>by
  have e1:HT.lexLt (x::xs) (y::ys)=true:=h1;have e2:HT.lexLt (y::ys) (z::zs)=true:=h2;show HT.lexLt (x::xs) (z::zs)=true;rw [HT.lexLt_cons] at e1 e2 ⊢;by_cases h:x=y
  ·subst h;rw [if_pos rfl] at e1;by_cases h':x=z
   ·subst h';rw [if_pos rfl] at e2 ⊢;exact mQ e1 e2
   ·rw [if_neg h'] at e2 ⊢;exact e2
  ·rw [if_neg h] at e1;have l1:=of_decide_eq_true e1;by_cases h':y=z
   ·subst h';rw [if_neg h]; exact e1
   ·rw [if_neg h'] at e2;have l2:=of_decide_eq_true e2;rw [if_neg 0x1];exact Ls 0x1
variable {b:List Int}
theorem fQ {a:List Int} (h:ll a b=true):ll b a=false:=by
 cases e:ll b a with
 |false=>rfl
 |true=>
  have:=mQ h e;rw [eH] at this; cases this
theorem gQ {a c:List Int} (h1:ll b a=false) (h2:ll c b=false):ll c a=false:=by
 cases e:ll c a with
 |false=>rfl
 |true=>
  cases e2:ll a b with
  |true=>rw [mQ e e2] at h2; cases h2
  |false=>
   have:=jQ e2 h1;subst this;rw [e] at h2; cases h2
theorem BQ {a c:List Int} (h1:ll a b=true) (h2:ll c b=false):ll a c=true:=by
 cases e2:ll b c with
 |true=>exact mQ h1 e2
 |false=>
  have:=jQ e2 h2;subst this; exact h1
section
variable (key:Nat->List Int)
variable {key}
end
open PySem.W (KasT kas_asc kas_desc kas_tail3 kas_descPart kas_count kas_place kas_bin kas_sort kas_rev kas_ask kas_item)
def zQ {α:Type} (n:Nat) (R:α->Prop):KasT α->Prop
 |.ret a=>R a
 |.ask i j k=>i<n/\j<n/\∀b,zQ n R (k b)
theorem zQ.bind {α β:Type} {n:Nat} {R:α->Prop} {R':β->Prop} {f:α->KasT β}:∀{t:KasT α},zQ n R t->(∀a,R a->zQ n R' (f a))->zQ n R' (t.bind f)
 |.ret a,h,hf=>hf a h
 |.ask i j k,h,hf=>⟨h.1,h.2.1,fun b=>zQ.bind (h.2.2 b) hf⟩
def Hy (n:Nat) (p:Array Nat):Prop:=1<=n/\∀x,x∈p->x<n
theorem Hy.perm {p q:Array Nat} (h:Hy n p) (hp:q.Perm p):Hy n q:=⟨h.1,fun x hx=>h.2 x (hp.mem_iff.mp hx)⟩
section
variable {prog:Program} {w:World} {A:Around} {E:Value->Shared->Prop} {s:Shared}
end
noncomputable def kT:D->Option (List Int)
 |.tuple xs=>go xs
 |_=>none
where go:List D->Option (List Int)
 |[]=>some []
 |.int i::r=>(go r).map (i::·)
 |_::_=>none
theorem FJ:∀{xs:List D} {ks:List Int},kT.go xs=some ks->xs=ks.map PyData.int
 |[],ks,h=>by cases h; rfl
 |x::r,ks,h=>by
  cases x with
  |int i=>
   unfold kT.go at h;cases e:kT.go r with
   |none=>rw [e] at h; cases h
   |some cs=>rw [e] at h; cases h; rw [FJ e]; rfl
  |_=>cases h
theorem pj {ks:List Int} (h:kT d=some ks):d=.tuple (ks.map PyData.int):=by
 unfold kT at h;split at h
 ·rw [FJ h]
 ·cases h
theorem oA:∀(ks ms:List Int),cL true (ks.map PyData.int) (ms.map PyData.int)=some (ll ks ms)
 |[],[]=>rfl
 |[],_::_=>rfl
 |_::_,[]=>rfl
 |x::xs,y::ys=>by
  rw [List.map_cons,List.map_cons,cL];show (if (x==y)=true then _ else _)=some (HT.lexLt (x::xs) (y::ys));rw [HT.lexLt_cons];by_cases h:x=y
  ·subst h;rw [if_pos (beq_self_eq_true _),if_pos rfl];exact oA xs ys
  ·rw [if_neg (by simpa using h),if_neg h];rfl
theorem qe:∀(ks ms:List Int),PyData.eqvAll (ks.map PyData.int) (ms.map PyData.int)=decide (ks=ms)
 |[],[]=>rfl
 |[],_::_=>rfl
 |_::_,[]=>rfl
 |x::xs,y::ys=>by
  rw [List.map_cons,List.map_cons,PyData.eqvAll,qe xs ys];show ((x==y)&&decide (xs=ys))=_;by_cases h:x=y
  ·subst h; simp
  ·have:(x==y)=false:=by simpa using h
   rw [this]; simp [h]
noncomputable def ins (d:D):List D->List D
 |[]=>[d]
 |e::r=>if ll (kOf d) (kOf e)=true then d::e::r else e::ins d r
where kOf (d:D):List Int:=(kT d).getD []
noncomputable def Ax:List D->List D
 |[]=>[]
 |d::r=>ins d (Ax r)
noncomputable abbrev kO:=ins.kOf
theorem o9 (d:D):∀xs:List D,(ins d xs).Perm (d::xs)
 |[]=>.refl _
 |e::r=>by
  unfold ins;split
  ·exact .refl _
  ·exact ((o9 d r).cons e).trans (.swap d e r)
theorem i9:∀xs:List D,(Ax xs).Perm xs
 |[]=>.refl _
 |d::r=>(o9 d (Ax r)).trans ((i9 r).cons d)
def Ord (xs:List D):Prop:=xs.Pairwise fun a b=>ll (kO b) (kO a)=false
theorem yX (d:D):∀{xs:List D},Ord xs->Ord (ins d xs)
 |[],_=>by unfold ins Ord; simp
 |e::r,h=>by
  have h':=Ll.mp h;unfold ins;split
  ·rename_i c;refine Ll.mpr ⟨fun x hx=>?_,h⟩;rcases Lc.mp hx with q|q
   ·subst q; exact fQ c
   ·exact gQ (fQ c) (h'.1 x q)
  ·rename_i c;refine Ll.mpr ⟨fun x hx=>?_,yX d h'.2⟩;rcases Lc.mp ((o9 d r).mem_iff.mp hx) with q|q
   ·subst q; simpa using c
   ·exact h'.1 x q
theorem oK:∀xs:List D,Ord (Ax xs)
 |[]=>List.Pairwise.nil
 |d::r=>yX d (oK r)
theorem yY:∀{xs ys:List D},xs.Perm ys->Ord xs->Ord ys->(∀x∈xs,(kT x).isSome)->xs=ys
 |[],ys,hp,_,_,_=>by rw [List.nil_perm.mp hp]
 |x::xs,[],hp,_,_,_=>by have:=hp.length_eq; simp at this
 |x::xs,y::ys,hp,h1,h2,hk=>by
  have p1:=Ll.mp h1;have p2:=Ll.mp h2;have exy:x=y:=by
   by_cases e:x=y
   ·exact e
   ·have hx:x∈ys:=by
     rcases Lc.mp (hp.mem_iff.mp KU) with q|q
     ·exact absurd q e
     ·exact q
    have hy:y∈xs:=by
     rcases Lc.mp (hp.mem_iff.mpr KU) with q|q
     ·exact absurd q.symm e
     ·exact q
    have a1:=p1.1 y hy;have a2:=p2.1 x hx;have ek:kO x=kO y:=jQ a2 a1;obtain ⟨k1,e1⟩:=Lk.mp (hk x KU);obtain ⟨k2,e2⟩:=Lk.mp (hk y (KS _ hy));have q1:kO x=k1:=by show (kT x).getD []=k1; rw [e1]; rfl
    have q2:kO y=k2:=by show (kT y).getD []=k2; rw [e2]; rfl
    rw [pj e1,pj e2,<-q1,<-q2,ek]
  subst exy;rw [yY (List.Perm.cons_inv hp) p1.2 p2.2 fun z hz=>hk z (KS _ hz)]
noncomputable def lD (xs:List DV):M DV:=match xs with
 |[x]=>bd (op (k7 x)) fun ys=>if ys.length<64/\ys.all (fun y=>(kT y).isSome&&decide ((kO y).length≠0))=true then rt (.new (Ax ys)) else none
 |_=>none
theorem RpL.pick {Z:List Addr} {H:Hp} {ds:List D} {vs:List V} (l:RpL Z H ds vs):∀(is:List Nat),(∀i∈is,i<ds.length)->RpL Z H (is.map fun i=>ds.getD i .none) (is.map fun i=>vs.getD i .non)
 |[],_=>.nil
 |i::r,h=>by
  have hi:=h i KU;obtain ⟨v,e,rv⟩:=l.get (i:=i) (d:=ds[i]) (by simp [hi]);refine .cons ?_ (RpL.pick l r fun j hj=>h j (KS _ hj));have e1:ds.getD i .none=ds[i]:=by simp [hi]
  have e2:vs.getD i .non=v:=by simp [List.getD_eq_getElem?_getD,e]
  show Rp Z H (ds.getD i .none) (vs.getD i .non);rw [e1,e2]; exact rv
theorem sd {vs:List V} {us:List Value} (r:aX vs us):∀(is:List Nat),(∀i∈is,i<vs.length)->aX (is.map fun i=>vs.getD i .non) (is.map fun i=>us.getD i Value.none)
 |[],_=>.nil
 |i::rs,h=>by
  have hi:=h i KU;obtain ⟨u,e,ru⟩:=r.get (i:=i) (x:=vs[i]) (by simp [hi]);refine .cons ?_ (sd r rs fun j hj=>h j (KS _ hj));have e1:vs.getD i .non=vs[i]:=by simp [hi]
  have e2:us.getD i Value.none=u:=by simp [List.getD_eq_getElem?_getD,e]
  show bJ (vs.getD i .non) (us.getD i Value.none);rw [e1,e2]; exact ru
theorem yZ {h:Heap}:∀(vs:List Value),(∀v∈vs,∃b o B' n i t,v=.ref b/\h.get? b=some o/\o.cls=.type "tuple" /\ o.data=.seq B' n/\B'[0]?=some (.int i t))->∃fs,PySem.W.KatTups h vs fs/\fs.length=vs.length/\∀f∈fs,∃i t,f=Value.int i t
 |[],_=>⟨[],PySem.W.KatTups.nil,rfl,fun _ hf=>nomatch hf⟩
 |v::r,hv=>by
  obtain ⟨b,o,B',n,i,t,rfl,eo,ec,ed,e0⟩:=hv v KU;obtain ⟨fs,h1,h2,h3⟩:=yZ r fun u hu=>hv u (KS _ hu);refine ⟨.int i t::fs,PySem.W.KatTups.cons eo ec ed e0 h1,by simp [h2],fun f hf=>?_⟩;rcases Lc.mp hf with e|e
  ·exact ⟨i,t,e⟩
  ·exact h3 f e
section
variable {X:Cx} {E:XK}
theorem lN (d:α) (xs:List α):(List.range xs.length).map (fun i=>xs.getD i d)=xs:=by
 apply List.ext_getElem
 ·simp
 ·intro i h1 h2;simp at h1;simp [h1]
end
noncomputable def br:=Di CU B1
noncomputable def eT:=Di Gq F8
noncomputable def gn:=Di J5 (gC true)
noncomputable def kP:=Di Kd (gC false)
section
variable {X:Cx} {E:XK}
theorem ck:hJ X E (binaryOp .Add) br:=Gf.or Gv
theorem gK:hJ X E (binaryOp .Mult) eT:=GJ.or G6
theorem jq (hu:X.A.units+64<cLine):hJ X E (compareOp .Lt) gn:=IP.or (GY hu)
theorem fC (hu:X.A.units+64<cLine):hJ X E (compareOp .LtE) kP:=Iu.or (G9 hu)
end
@[simp] theorem cY (i j:Int):br (.d (.int i)) (.d (.int j))=rt (.d (.int (i+j))):=rfl
@[simp] theorem qG (i j:Int):CU (.d (.int i)) (.d (.int j))=rt (.d (.int (i+j))):=rfl
@[simp] theorem dq (i j:Int):gSub (.d (.int i)) (.d (.int j))=rt (.d (.int (i-j))):=rfl
@[simp] theorem t6 (i j:Int):J5 (.d (.int i)) (.d (.int j))=rt (.d (.bool (decide (i<j)))):=rfl
@[simp] theorem uc (i j:Int):Kd (.d (.int i)) (.d (.int j))=rt (.d (.bool (decide (i<=j)))):=rfl
@[simp] theorem gq (i j:Int):mY (.d (.int i)) (.d (.int j))=rt (.d (.bool (decide (j<i)))):=rfl
@[simp] theorem kH (i j:Int):HH (.d (.int i)) (.d (.int j))=rt (.d (.bool (decide (j<=i)))):=rfl
@[simp] theorem d9 (i j:Int):gn (.d (.int i)) (.d (.int j))=rt (.d (.bool (decide (i<j)))):=rfl
@[simp] theorem iN (i j:Int):kP (.d (.int i)) (.d (.int j))=rt (.d (.bool (decide (i<=j)))):=rfl
variable {j:Int}
theorem dJ {i:Int} (h:0<j):iZ (.d (.int i)) (.d (.int j))=rt (.d (.int (i % j))):=by
 unfold iZ gI Gy;simp [h]
theorem ko {i:Int} (h:0<j) (h':j<1073741824):uJ (.d (.int i)) (.d (.int j))=rt (.d (.int (i / j))):=by
 unfold uJ gI Hc;simp [h,h']
theorem eJ {i:Int} (h:um i j=true):eT (.d (.int i)) (.d (.int j))=rt (.d (.int (i*j))):=by
 unfold eT Di Gq gI;simp [h,rt]
theorem dW:bootBuiltins "len" = some (.builtin "len"):=by decide +kernel
theorem p0:bootBuiltins "all" = some (.builtin "all"):=by decide +kernel
theorem He:bootBuiltins "min" = some (.builtin "min"):=by decide +kernel
theorem gA:bootBuiltins "sorted" = some (.builtin "sorted"):=by decide +kernel
theorem qR:bootBuiltins "isinstance" = some (.builtin "isinstance"):=by decide +kernel
theorem Hi:bootBuiltins "int" = some (.type "int"):=by decide +kernel
theorem EU:bootBuiltins "bool" = some (.type "bool"):=by decide +kernel
theorem oV:bootBuiltins "list" = some (.type "list"):=by decide +kernel
theorem uY:bootBuiltins "tuple" = some (.type "tuple"):=by decide +kernel
structure Has (P:Program) (w:World) (K:Lb) (mg:Str->Option Value) (base:Heap) (k:Nat) (x:Str) (n:Nat) (fm:List DV->M DV):Prop where
 ex:∃fn fd ps,FnOk P w K mg base uH k fn fd ps (Ep n fm)/\mg x=some (.ref fn)/\PySem.W.keepIn K (.ref fn)=true/\gi K fd ps []
section
variable {X:Cx} {E:XK} {e:Expr} {es:List Expr} {pos p:Pos} {fa:DS->M DV} {fr:DS->M (List DV)}
theorem aM {k:Nat} {x:Str} {fm:List DV->M DV} (F:Has X.prog X.w X.K X.mg X.base k x n fm) (hr:Room k X.A) (ha:vg X E (e::es) fr) (hg:Gl X x:=by rfl) (Mi:(x==("__debug__" : Str))=false:=by decide)
  (he:starEach (e::es) X.env=(false,eval e X.env)::starEach es X.env:=by rfl) (L9:(backTo pos (starEach es X.env)).any (·.1)=false:=by rfl) :
  PX X E (.Call (.Name x p) (e::es) [] pos) (aN (ay n fm) fr):=by
 obtain ⟨fn,fd,ps,h1,h2,h3,h4⟩:=F.ex;exact Ed h1 hr h2 h3 h4 ha hg Mi he L9
noncomputable def F9:D->Option String
 |.none=>some "NoneType"
 |.bool _=>some "bool"
 |.int _=>some "int"
 |.str _=>some "str"
 |.tuple _=>some "tuple"
 |.list _=>some "list"
 |_=>none
noncomputable def HS (T t:String):Bool:=if T = "int" then t = "int" || t = "bool" else t=T
noncomputable def Jg (t T:String):Option Bool:=if (Value.type t==Value.type T)=true then some true else if PySem.W.kitMeta T=true then (fastBuiltinMro t).map (·.contains (.type T)) else none
theorem DE (K:Lb) (t T:String):PySem.W.kitOne K (.type t) (.type T)=Jg t T:=rfl
noncomputable def J6:List String:=["NoneType", "bool", "int", "str", "tuple", "list"]
theorem E8:∀T∈["int", "bool", "str", "tuple", "list"],∀t∈J6,Jg t T=some (HS T t):=by decide +kernel
theorem Ht {t:String} (h:F9 d=some t):t∈J6:=by
 cases d <;> simp only [F9] at h <;> first|(cases h; decide)|cases h
noncomputable def Gw (T:String) (fa:DS->M DV) (δ:DS):M DV:=bd (fa δ) fun x=>bd (op ((mR x).bind F9)) fun t=>rt (.d (.bool (HS T t)))
theorem G1 {t:String} (r:Rp Z H d v) (h:F9 d=some t):TyOf K H v (.type t):=by
 cases r with
 |none=>cases h; exact .non
 |bool b=>cases h; exact .bl b
 |int i=>cases h; exact .int i
 |str x _=>cases h; exact .str x
 |tup _ ha _=>cases h; exact .tup ha
 |lst _ ha _=>cases h; exact .lst ha
theorem RE.ty {t:String} (r:RE O P H₀ H x v) (h:(mR x).bind F9=some t):TyOf K H v (.type t):=by
 cases x with
 |d y=>exact G1 (show Rp (P++O) H y v from r) h
 |ob C fs=>cases h
 |fz kvs=>cases h
 |ex q=>cases h
 |tpo p xs q=>cases h
 |nwt p xs q=>cases h
 |own xs=>
  obtain ⟨a,vs,rfl,_,ha,_⟩:=r;cases h; exact .lst ha
 |new xs=>
  obtain ⟨a,vs,rfl,_,ha,_⟩:=r;cases h; exact .lst ha
 |scr K ns=>cases h
theorem AA {T:String} {y:Str} {p2:Pos} (hT:T∈["int", "bool", "str", "tuple", "list"]) (hm:X.mg "isinstance" = none) (hmy:X.mg y=none) (hv:bootBuiltins y=some (.type T)) (ha:PX X E e fa) (hg:Gl X "isinstance" :=by rfl) (hgy:Gl X y:=by rfl) (hn:y ≠ "__name__" :=by decide) (Mi:(y==("__debug__" : Str))=false:=by decide)
  (he:starEach [e,.Name y p2] X.env=(false,eval e X.env)::starEach [.Name y p2] X.env:=by rfl) (L9:(backTo pos (starEach [.Name y p2] X.env)).any (·.1)=false:=by rfl):PX X E (.Call (.Name "isinstance" p) [e,.Name y p2] [] pos) (Gw T fa):=by
 intro pins s σ H Q I h;refine wpAny_Call_Name_kw (lj I hg hm qR ?_);refine PyProof.Rows.callWith_builtin1 (PyProof.Rows.spliced_more (cG (ha pins s σ H (fun v H1=>∃t,TyOf X.K H1 v (.type t)/\t∈J6/\Q (.bl (HS T t)) H1) I ?_) fun u s1 ⟨v,H1,I1,r1,t,ty,Mu,q1⟩=>PyProof.Rows.spliced_more (lj I1 hgy hmy hv ?_ hn Mi)) he) he L9
 ·exact kR (g:=fun _ x=>bd (op ((mR x).bind F9)) fun t=>rt (.d (.bool (HS T t)))) h fun O P δ x r v H1 rs LC s1 rx e' q'=>by
   obtain ⟨t,e1,e2⟩:=bQ e';cases e2;refine ⟨t,rx.ty e1,?_,q' _ H1 (aF.refl H1) (.bool _)⟩;obtain ⟨d,_,hd⟩:=Option.bind_eq_some_iff.mp e1;exact Ht hd
 ·exact PyProof.Rows.spliced_none (zD I1 r1 ty (b:=HS T t) (by rw [DE]; exact E8 T hT t Mu) fun tk=>⟨.bl _,H1,I1.tok tk,rfl,q1⟩)
end
structure CompSc (sc:Scope) (N:List Str) (k:Nat) (js:List Nat) (N':List Str) (scope:Scope):Prop where
 kind:scope.kind=.function
 nocell:∀y∈scope.names,y.2≠.cell
 loc:∀y∈scope.names,y.2=.local->scope.names.lookup y.1=some .local
 free:∀y∈scope.names,y.2=.free->sc.names.lookup y.1=some .cell\/sc.names.lookup y.1=some .free
 len:N'.length=k+js.length
 at':((List.range js.length).all fun i=>match js[i]?,N'[k+i]? with
  |some j,some x=>decide (N[j]?=some x/\(sc.names.lookup x=some .cell\/sc.names.lookup x=some .free)/\scope.names.lookup x=some .free)
  |_,_=>false)=true
variable {N:List Str} {k:Nat} {scope:Scope}
theorem CompSc.fit {js:List Nat} {N':List Str} {sc:Scope} (S:CompSc sc N k js N' scope) (h1:X.env.scope=sc:=by rfl) (h2:X.N=N:=by rfl):CompFit X k js N' scope:=by
 subst h1 h2;refine ⟨S.kind,S.nocell,S.loc,S.free,S.len,fun i x h hi=>?_⟩;have LM:i<N'.length:=(Lj.mp h).1;rw [S.len] at LM;have q:=List.all_eq_true.mp S.at' (i-k) (Lh.mpr 0x1);have e:k+(i-k)=i:=by lia
 rw [e,h] at q;cases ej:js[i-k]? with
 |none=>rw [ej] at q; cases q
 |some j=>
  rw [ej] at q;obtain ⟨a,b,c⟩:=of_decide_eq_true q;exact ⟨j,rfl,a,b,c⟩
theorem aT {js:List Nat} (hi:i<k) (δ:DS) (d:D) (δ1:DS) (h:aq i d (cj k js δ)=some δ1):Sub (cj k js δ) δ1:=by
 cases h;refine Er (.inl ?_);unfold cj;rw [List.getElem?_append_left (by simpa using hi),List.getElem?_replicate,if_pos hi]
theorem Has.mono {P:Program} {w:World} {K:Lb} {mg:Str->Option Value} {base:Heap} {j k:Nat} {x:Str} {n:Nat} {fm:List DV->M DV} (h:Has P w K mg base j x n fm) (hj:j<=k):Has P w K mg base k x n fm:=by
 obtain ⟨fn,fd,ps,h1,h2,h3,h4⟩:=h.ex;exact ⟨fn,fd,ps,h1.mono hj,h2,h3,h4⟩
def Df (K:Lb) (mg:Str->Option Value) (x:Str) (st:Stmt) (ps:List Str):Prop:=∃f fd,Fun K x x st f fd/\mg x=some (.ref f)/\gi K fd ps []
variable {mg:Str->Option Value} {base:Heap} {ps:List Str} {fm:List DV->M DV}
theorem Df.has {P:Program} {x:Str} (D:Df K mg x st ps)
  (h:∀f fd,Fun K x x st f fd->FnOk P w K mg base uH k f fd ps (Ep n fm)):Has P w K mg base k x n fm:=by
 obtain ⟨f,fd,Fu,hm,hb⟩:=D;exact ⟨f,fd,ps,h f fd Fu,hm,Fu.kp,hb⟩
variable {A:Around}
theorem dC (hr:Room k A):A.units+64<cLine:=by
 have:=hr.un;lia
theorem ie {x:Str} {i:Int} {pos:Pos} (hm:∃t,X.mg x=some (.int i t)) (hg:Gl X x:=by rfl) (hd:(x==("__debug__" : Str))=false:=by decide):PX X E (.Name x pos) (eC (.int i)):=by
 obtain ⟨t,h⟩:=hm;exact DP hg h hd
theorem cR.some {P:Program} {w:World} {H:Hp} {h:Heap} {a:Addr} {o:HO} (x:cR P w H h a o):∃u,h.get? a=some u:=by
 cases o with
 |lst xs=>obtain ⟨_,_,_,_,e⟩:=x; exact ⟨_,e⟩
 |tup xs=>obtain ⟨_,_,_,u,e,_⟩:=x; exact ⟨u,e⟩
 |dK kvs=>obtain ⟨_,_,_,_,u,_,_,e,_⟩:=x; exact ⟨u,e⟩
 |dT kvs=>obtain ⟨_,_,_,_,u,_,_,e,_⟩:=x; exact ⟨u,e⟩
 |set S n=>obtain ⟨u,_,_,_,e,_⟩:=x; exact ⟨u,e⟩
 |ins C dx fs=>obtain ⟨_,_,_,e,_⟩:=x; exact ⟨_,e⟩
 |own y=>exact x
 |xd fs=>obtain ⟨_,⟨u,_,_,e,_⟩,_⟩:=x; exact ⟨u,e⟩
 |rng lo hi=>obtain ⟨_,_,_,e⟩:=x; exact ⟨_,e⟩
 |frz ob u=>exact ⟨ob,x.1⟩
 |tbl ps=>exact ⟨_,x⟩
 |met f y=>exact ⟨_,x⟩
 |ext φ=>exact x.2.1
structure Fly (P:Program) (w:World) (l:List Env) (s:Shared) (H:Hp) (cls:Value) (x:Addr) (H':Hp) (B:Heap) (a0:Value) (s':Shared):Prop where
 os:s'.os=s.os
 bare:AllBare s'.gens
 fly:Heap.FlyingW B l x cls a0 s'.heap
 trk:∀b u,H' b=some u->∃o,B.get? b=some o
 old:∀b o,s.heap.get? b=some o->H b=none->b∉iP l->B.get? b=some o
 all:∀b o,s.heap.get? b=some o->b∉iP l->∃o',B.get? b=some o'
 un:Un (iP l) [] H H' s.heap s'.heap
 hok:k6 P w H' s'.heap
def xq (P:Program) (w:World):Ai:=fun l H s E e s'=>∃x cls dx H' B a0,e=.ref x/\Fly P w l s H cls x H' B a0 s'/\E cls dx H'
theorem Fly.go {P:Program} {l:List Env} {s':Shared} {cls a0:Value} {x:Addr} {B:Heap} (F:Fly P w l s H cls x H' B a0 s') (f:Heap.FlyingW B l x cls a0 h') (u:s'.heap.UpToSlots h'):Fly P w l s H cls x H' B a0 { s' with heap:=h' }:=by
 have fr:∀b,b∈iP l->∀o,s'.heap.get? b=some o->∃sl,h'.get? b=some { o with slots:=sl }:=fun b hb o e=>by
  obtain ⟨_,o',e',hd⟩:=F.fly.2.2.1.mem hb;rw [e] at e'; cases e'
  exact u b o e hd
 refine ⟨F.os,F.bare,f,F.trk,F.old,F.all,⟨fun b o e n hb _=>f.1 b o (F.old b o e n hb),fun b o e n hb hx=>?_,F.un.free,fun b o e hx=>?_,F.un.tups,F.un.frzs,F.un.tbls⟩,fun b v q=>(F.hok b v q).stay (fun c o hc e=>?_) (fun _ q=>q) fun _ _ q=>q⟩
 ·obtain ⟨sl,e1⟩:=F.un.slot b o e n hb hx;obtain ⟨sl',e2⟩:=fr b hb _ e1;exact ⟨sl',e2⟩
 ·obtain ⟨o',e1⟩:=F.un.there b o e hx;by_cases hb:b∈iP l
  ·obtain ⟨sl,e2⟩:=fr b hb o' e1;exact ⟨_,e2⟩
  ·obtain ⟨o2,e2⟩:=F.all b o e hb;exact ⟨o2,f.1 b o2 e2⟩
 ·have ht:∃v',H' c=some v':=by
   rcases hc with z|z
   ·exact ⟨v,z▸q⟩
   ·exact ⟨_,z⟩
  obtain ⟨v',Oe⟩:=ht;obtain ⟨o2,e2⟩:=F.trk c v' Oe;have:=F.fly.1 c o2 e2;rw [e] at this; cases this
  exact f.1 c _ e2
variable {qual:Str} {f:Addr} {cd:Value} {outer:List Env} {s0:Shared} {H0:Hp}
theorem yd {P:Program} {pins:List (Addr×Obj)} {h1:Heap} {e:Addr} {cls:Value} {vs:List Value}
  (I:Inv (fj (xq P w) P w K mg base N qual scope f cd A outer s0 H0 E) pins σ H s) (hx:Heap.MadeExcOf s.heap h1 e cls vs) (hE:E cls none H):(fj (xq P w) P w K mg base N qual scope f cd A outer s0 H0 E).xe (.ref e) { s with heap:=h1 }:=by
 have hl:∀b,b∈iP (envOfC qual scope s0.heap.objs.size f cd::outer)↔b=s0.heap.objs.size\/b∈iP outer:=fun b=>by
  show b∈s0.heap.objs.size::iP outer↔_;exact List.mem_cons
 have nL:∀b o,s0.heap.get? b=some o->b≠s0.heap.objs.size:=fun b o q=>Lu (K5 q);have M8:=I.stack;have ff:=PySem.W.funFrames_hide (as:=iP (envOfC qual scope s0.heap.objs.size f cd::outer)) M8 fun en he a ha=>List.mem_filterMap.mpr ⟨en,he,ha⟩;refine wpAny_leaves_madeW (base:=PySem.W.hideAll s.heap (iP (envOfC qual scope s0.heap.objs.size f cd::outer))) (h:=s.heap) I.ok.frames rfl (fun b o q=>PySem.W.of_hideAll _ q) ff hx fun h2 t x1 x2 x3 x4=>?_;have kB:∀b o,s.heap.get? b=some o->b∉iP (envOfC qual scope s0.heap.objs.size f cd::outer)->h2.get? b=some o:=fun b o q n=>x1.1 b o (PySem.W.hideAll_get _ q n);have trk:∀b u,H b=some u->b∉iP (envOfC qual scope s0.heap.objs.size f cd::outer):=fun b u q hb=>by
  have:=I.stkFree b hb;rw [q] at this; cases this
 have fr:∀b o,b∈iP outer->s.heap.get? b=some o->∃sl,h2.get? b=some { o with slots:=sl }:=fun b o hb q=>by
  obtain ⟨_,o',e',hd⟩:=I.funs.mem hb;rw [q] at e'; cases e'
  exact x4 b o (hx.keeps b o q) hd
 have out:∀b o,s0.heap.get? b=some o->b∉iP outer->b∉iP (envOfC qual scope s0.heap.objs.size f cd::outer):=fun b o q n z=>by
  rcases (hl b).mp z with z|z
  ·exact nL b o q z
  ·exact n z
 refine ⟨e,cls,none,H,_,_,rfl,⟨I.os,I.bare,x1,fun b u q=>?_,fun b o q n hb=>?_,fun b o q hb=>?_,⟨fun b o q n hb _=>?_,fun b o q n hb _=>?_,fun b o q n _=>I.base.free b o q n (by simp [fj]),fun b o q _=>?_,I.base.tups,I.base.frzs,I.base.tbls⟩,fun b u q=>(I.hok b u q).stay (fun c o hc r=>?_) (fun _ q=>q) fun _ _ q=>q⟩,hE⟩
 ·obtain ⟨o,r⟩:=cR.some (I.hok b u q);exact ⟨o,PySem.W.hideAll_get _ r (trk b u q)⟩
 ·exact PySem.W.hideAll_get _ (I.base.keep b o q n hb (by simp [fj])) (out b o q hb)
 ·obtain ⟨o',r⟩:=I.base.there b o q (by simp [fj]);exact ⟨o',PySem.W.hideAll_get _ r (out b o q hb)⟩
 ·exact kB b o (I.base.keep b o q n hb (by simp [fj])) (out b o q hb)
 ·obtain ⟨sl,r⟩:=I.base.slot b o q n hb (by simp [fj]);obtain ⟨sl',r'⟩:=fr b _ hb r;exact ⟨sl',r'⟩
 ·obtain ⟨o',r⟩:=I.base.there b o q (by simp [fj]);by_cases hb:b∈iP outer
  ·obtain ⟨sl,r'⟩:=fr b o' hb r;exact ⟨_,r'⟩
  ·exact ⟨o',kB b o' r (out b o q hb)⟩
 ·have ht:∃v,H c=some v:=by
   rcases hc with z|z
   ·exact ⟨u,z▸q⟩
   ·exact ⟨_,z⟩
  obtain ⟨v,hv⟩:=ht;exact kB c o r (trk c v hv)
noncomputable def Kw:List Value:=[.type "ValueError",.type "Exception",.type "BaseException",.type "object"]
structure Xc (K:Lb) (mg:Str->Option Value) (x:Str) (C:Addr):Prop where
 bound:mg x=some (.ref C)
 ex:PySem.W.excIn K C Kw "ValueError.__new__" = true
theorem Dz {C:Addr} {bmB:List Value} {nw:String} (X:K.In h) (q:PySem.W.excIn K C bmB nw=true) :
  ∃bm N nm qn bs hdct sn sub ab col dd k0 k1 k2 k3 k5 mN,h.get? C=some (excClassObj nm qn C N bs bm hdct sn sub ab col dd k0 k1 k2 k3 k5 nw)/\h.Ns N mN/\mN "__init__" = none/\OwnTail h bmB bm:=by
 unfold PySem.W.excIn at q;cases ho:K.lookup C with
 |none=>rw [ho] at q; cases q
 |some ob=>
  rw [ho] at q;split at q
  ·rename_i dd cd sl eo;cases eo;split at q
   ·rename_i C' bm k0 k1 k2 k3 n k5 hm hs;rw [Bool.and_eq_true,Bool.and_eq_true,Bool.and_eq_true,Bool.and_eq_true,Bool.and_eq_true] at q;obtain ⟨⟨⟨⟨⟨q1,q2⟩,q3⟩,q4⟩,q5⟩,q6⟩:=q;have q1:=beq_iff_eq.mp q1;have q2:=beq_iff_eq.mp q2;have q7:PySem.W.nsIn K cd.ns "__init__" = some none:=beq_iff_eq.mp q6;obtain ⟨nm,bs,mro,ns,qn,hd,sn,sub,ab,col,del⟩:=cd;simp only at hm q3 q5 q7;have q3:del=false:=by simpa using q3
    subst q1 q2 hm q3;have hsl:sl=#[k0,k1,k2,k3,some (.builtin n),k5]:=Array.toList_inj.mp (by rw [hs]);subst hsl;refine ⟨bm,ns,nm,qn,bs,hd,sn,sub,ab,col,dd,k0,k1,k2,k3,k5,h.nsMap ns,?_,?_,?_,?_⟩
    ·exact X _ _ ho
    ·exact .of_isNs (PySem.W.isNs_of_in X q5)
    ·exact PySem.W.nsMap_none_of_in X q5 q7
    ·exact PySem.W.tail_of_in X q4
   ·cases q
  ·cases q
section
variable {X:Cx} {E:XK} {x:Str} {C:Addr} {np F' pos p2:Pos} {z:Str} {j:Nat}
def xU (X:Cx) (E:XK):Prop:=X.A.handled=none/\∀(pins:List (Addr×Obj)) (σ:St) (H:Hp) (s:Shared) (h1:Heap) (e:Addr) (cls:Value) (vs:List Value),Inv X pins σ H s->Heap.MadeExcOf s.heap h1 e cls vs->E cls none H->X.xe (.ref e) { s with heap:=h1 }
theorem qh (mk:xU X E) (O:Xc X.K X.mg x C) (hg:Gl X x:=by rfl) (hd:(x==("__debug__" : Str))=false:=by decide) {jj} :
  PS X (.Raise (some (.Call (.Name x np) [.Constant (.str z) jj p2] [] F')) none pos) (fun _ _ H=>E (.ref C) none H):=by
 intro pins s σ H D I h;obtain ⟨bm,N,nm,q,bs,hdct,sn,sub,ab,col,dd,k0,k1,k2,k3,k5,mN,hC,hN,hni,T⟩:=Dz I.ok.mod.kin O.ex;refine wpAny_Raise_call_subT (C:=C) (nm:=nm) (q:=q) (N:=N) (bs:=bs) (bm:=bm) (hdct:=hdct) (sn:=sn) (sub:=sub) (ab:=ab) (col:=col) (dd:=dd) (k0:=k0) (k1:=k1) (k2:=k2) (k3:=k3) (k5:=k5) (mN:=mN)
  PySem.F.excBase_ValueError (T.hasType PySem.F.excBase_ValueError.hasBase) mk.1 rfl hni (oz I hg O.bound ⟨rfl,?_⟩ hd)
 have M8:starEach [(.Constant (.str z) jj p2:Expr)] X.env=(false,eval (.Constant (.str z) jj p2) X.env)::starEach [] X.env:=rfl;rw [M8];refine Calls.evalArgs_plain ?_;refine Calls.spliced_cons (cG (Co (pos:=p2) (j:=jj) (x:=z) pins s σ H (fun _ H1=>H1=H) I rfl) fun u s1 ⟨v,H1,I1,_,e1⟩=>Calls.spliced_nil ?_);subst e1;refine ⟨rfl,by show 1<=sizeLine; decide,I1.bk _ _ hC,hN.keeps I1.bk,T.keeps I1.bk,fun h1 e hm=>mk.2 pins σ H1 s1 h1 e _ _ I1 hm h⟩
end
open PySem.W (Looks)
section
variable {X:Cx} {pins pn:List (Addr×Obj)} {σ:St} {H:Hp} {s:Shared} {W:Value->Shared->Prop} {e:Addr}
end
section
variable {X:Cx} {E:XK} {body:List Stmt} {F:DS->M Out} {cn n:Str} {C:Addr} {i:Nat} {ex:Expr} {np hpos rpos pos:Pos} {k:Bool}
end
section
variable {X:Cx} {e C:Addr} {oe:Obj} {i:Nat} {n y:Str} {p p1 p2 pos:Pos} {c:Value}
theorem lR {P:Program}:jv (xq P w) X E0:=fun _ _ _ _ _ _ _ ⟨_,_,_,_,_,_,_,_,h⟩=>h.elim
end
def Kk (C CB:Addr) (jK:Int->Int->Bool) (f1 f2:Str):Sp:=fun vs H Q E=>∃p dx m c,vs=[.ref p,.int m,.int c]/\H p=some (.ins C dx []) /\
 ∀H1,aF H H1->if jK m c=true then Q .non (bX (bX H1 p (.ins C dx (gu f1 (.int m) []))) p (.ins C dx (gu f2 (.int c) (gu f1 (.int m) [])))) else E (.ref CB) none H1
structure Hs (P:Program) (w:World) (K:Lb) (mg:Str->Option Value) (base:Heap) (x:Str) (C CB:Addr) (jK:Int->Int->Bool) (f1 f2:Str):Prop where
 ex:∃f fd ps,Mk K C f/\FnOk P w K mg base (xq P w) 1 f fd ps (Kk C CB jK f1 f2)/\gi K fd ps []/\mg x=some (.ref C)
noncomputable def Jr (C CB:Addr) (jK:Int->Int->Bool) (f1 f2:Str) (xs:List DV):M DV:=match xs with
 |[.d (.int m),.d (.int c)]=>if jK m c=true then rt (.ob C [(f1,.int m),(f2,.int c)]) else some (.error (.ref CB))
 |_=>none
theorem Fs {f1 f2:Str} (h:f1≠f2) (v u:V):gu f2 u (gu f1 v [])=[(f1,v),(f2,u)]:=by
 show (if f1=f2 then _ else _)=_;rw [if_neg h]; rfl
section
variable {X:Cx} {E:XK} {e:Expr} {es:List Expr} {pos p:Pos} {fr:DS->M (List DV)}
theorem xS {x:Str} {C CB:Addr} {jK:Int->Int->Bool} {f1 f2:Str} (h:Hs X.prog X.w X.K X.mg X.base x C CB jK f1 f2) (hf:f1≠f2) (hr:Room 2 X.A) (pass:jv (xq X.prog X.w) X E) (ha:vg X E (e::es) fr) (hg:Gl X x:=by rfl) (Mi:(x==("__debug__" : Str))=false:=by decide)
  (he:starEach (e::es) X.env=(false,eval e X.env)::starEach es X.env:=by rfl) (L9:(backTo pos (starEach es X.env)).any (·.1)=false:=by rfl):PX X E (.Call (.Name x p) (e::es) [] pos) (aN (Jr C CB jK f1 f2) fr):=by
 obtain ⟨f,fd,ps,hM,hF,hb,hm⟩:=h.ex;refine PE.mono (yy hM hF hr hg hm hb .nil pass ha Mi he L9) fun σ H Q q=>nP (g:=fun _=>Jr C CB jK f1 f2) q fun O P δ xs r vs H1 rs LC s1 rx e q=>?_;unfold Jr at e;split at e
 ·rename_i m c;cases rx with
  |cons r1 rr=>
   cases rr with
   |cons r2 rr=>
    cases rr;cases r1;cases r2;intro x dx nx ndx ne;refine ⟨x,dx,m,c,rfl,aW,fun H2 s2=>?_⟩;have sH:aF H1 H2:=fun b o q=>s2 b o (by rw [aG (bN q nx),aG (bN q ndx)]; exact q);split at e
    ·rename_i NB;rw [if_pos NB];cases e;refine ⟨rfl,q _ _ (fun b o q=>?_) ⟨x,dx,_,rfl,fun z=>?_,aW,?_⟩⟩
     ·rw [aG (bN q nx),aG (bN q nx)]; exact sH b o q
     ·obtain ⟨o,q⟩:=LC.dom x z;rw [nx] at q; cases q
     ·rw [Fs hf];exact .cons ⟨rfl,.int m⟩ (.cons ⟨rfl,.int c⟩ .nil)
    ·rename_i NB;rw [if_neg NB];cases e;exact q none H2 sH
 ·cases e
end
theorem oX {P:Program} :
  jv (xq P w) (fj (xq P w) P w K mg base N qual scope f cd A outer s0 H0 E) E:=by
 intro pins σ H s e s' I cx;obtain ⟨x,cls,dx,H',B,a0,rfl,Fl,hE⟩:=cx;have hl:∀b,b∈iP (envOfC qual scope s0.heap.objs.size f cd::outer)↔b=s0.heap.objs.size\/b∈iP outer:=fun b=>by
  show b∈s0.heap.objs.size::iP outer↔_;exact List.mem_cons
 have out:∀b o,s0.heap.get? b=some o->b∉iP outer->b∉iP (envOfC qual scope s0.heap.objs.size f cd::outer):=fun b o q n z=>by
  rcases (hl b).mp z with z|z
  ·exact Lu (K5 q) z
  ·exact n z
 have Fl:Fly P w (envOfC qual scope s0.heap.objs.size f cd::outer) s H cls x H' B a0 s':=Fl;refine wpAny_leaves_onW (L:=s0.heap.objs.size) I.ok.frames rfl Fl.fly fun h2 f2 u=>?_;have fr:∀b o,b∈iP outer->s'.heap.get? b=some o->∃sl,h2.get? b=some { o with slots:=sl }:=fun b o hb q=>by
  obtain ⟨_,o',e',hd⟩:=Fl.fly.2.2.1.mem (show b∈iP (envOfC qual scope s0.heap.objs.size f cd::outer) from (hl b).mpr (.inr hb));rw [q] at e'; cases e'
  exact u b o q hd
 have old:∀b o,s0.heap.get? b=some o->H0 b=none->b∉iP outer->B.get? b=some o:=fun b o q n hb=>
  Fl.old b o (I.base.keep b o q n hb (by simp [fj])) (I.base.free b o q n (by simp [fj])) (out b o q hb)
 have all:∀b o,s0.heap.get? b=some o->b∉iP outer->∃o',B.get? b=some o':=fun b o q hb=>by
  obtain ⟨o',r⟩:=I.base.there b o q (by simp [fj]);exact Fl.all b o' r (out b o q hb)
 refine ⟨x,cls,dx,H',B,a0,rfl,⟨Fl.os.trans I.os,Fl.bare,f2,Fl.trk,old,all,⟨fun b o q n hb _=>f2.1 b o (old b o q n hb),fun b o q n hb _=>?_,fun b o q n _=>?_,fun b o q _=>?_,fun b xs q=>Fl.un.tups b xs (I.base.tups b xs q),fun b o xs q=>Fl.un.frzs b o xs (I.base.frzs b o xs q),fun b ps q=>?_⟩,fun b v q=>(Fl.hok b v q).stay (fun c o hc r=>?_) (fun _ q=>q) fun _ _ q=>q⟩,hE⟩
 ·obtain ⟨sl,r⟩:=I.base.slot b o q n hb (by simp [fj]);obtain ⟨sl',r'⟩:=Fl.un.slot b _ r (I.base.free b o q n (by simp [fj])) ((hl b).mpr (.inr hb)) 0x4;obtain ⟨NF,r2⟩:=fr b _ hb r';exact ⟨NF,r2⟩
 ·obtain ⟨o',r⟩:=I.base.there b o q (by simp [fj]);exact Fl.un.free b o' r (I.base.free b o q n (by simp [fj])) 0x4
 ·obtain ⟨o',r⟩:=I.base.there b o q (by simp [fj]);by_cases hb:b∈iP outer
  ·obtain ⟨o2,r2⟩:=Fl.un.there b o' r 0x4;obtain ⟨sl,r3⟩:=fr b o2 hb r2;exact ⟨_,r3⟩
  ·obtain ⟨o2,r2⟩:=all b o q hb;exact ⟨o2,f2.1 b o2 r2⟩
 ·obtain ⟨m1,e1⟩:=I.base.tbls b ps q;obtain ⟨m2,e2⟩:=Fl.un.tbls b _ e1;exact ⟨m1++m2,by rw [e2,Array.append_assoc]⟩
 ·have ht:∃v',H' c=some v':=by
   rcases hc with z|z
   ·exact ⟨v,z▸q⟩
   ·exact ⟨_,z⟩
  obtain ⟨v',Oe⟩:=ht;obtain ⟨o2,e2⟩:=Fl.trk c v' Oe;have:=Fl.fly.1 c o2 e2;rw [r] at this; cases this
  exact f2.1 c _ e2
def IB (n:Nat) (fm:List DV->M DV):Sp:=fun vs H Q E=>vs.length=n/\∃O xs r,(∀a,a∈O->∃o,H a=some o)/\lU O [] H H xs vs/\fm xs=some r/\Fn E O [] H H Q r
theorem IJ {P:Program} {x:Str} {fd:FuncData} {F:DS->M Out} (Fu:Fun K x qual st f fd) (S:FnScope N ps (ak st)) (hn:ps.length=n)
  (body:∀(LD:Value) (A:Around) (outer:List Env) (s:Shared) (H:Hp) (E:XK),Room k (A.deeper (envOfC qual (ak st) s.heap.objs.size f LD)) ->
   Aw (fj (xq P w) P w K mg base N qual (ak st) f LD A outer s H E) E (dD st) F):FnOk P w K mg base (xq P w) (k+1) f fd ps (IB n (eE N F)):=by
 obtain ⟨oc,od,kV,doc,pm,an,LD,ct,NA,rfl,lk,M'⟩:=Fu.ex;refine C2 lk M' S (fun vs H Q E h=>h.1.trans hn.symm) fun A outer s H vs Q E hr MK=>⟨_,body LD A outer s H E hr,?_⟩;obtain ⟨_,O,xs,r,dom,rx,e,q⟩:=MK;rcases az e with ⟨o,e1,e2⟩|⟨c,e1,e2⟩
 ·refine ⟨O,[],mS N xs,.ok o,RS.start dom rx,e1,?_⟩;cases o with
  |rt y=>
   cases e2;intro v H1 H' P' k' s' _ _ ry;obtain ⟨sH,ry'⟩:=ry.out k' s';exact q v H' sH ry'
  |nx δ=>
   cases e2;intro σ' H' P' k' _;exact q .non H' (fun b o e=>k'.keep b o 0x4 e) .none
  |bk δ=>cases e2
  |ct δ=>cases e2
 ·subst e2;exact ⟨O,[],mS N xs,.error c,RS.start dom rx,e1,fun dx H' P' k'=>q dx H' fun b o e=>k'.keep b o 0x4 e⟩
structure HasX (P:Program) (w:World) (K:Lb) (mg:Str->Option Value) (base:Heap) (k:Nat) (x:Str) (n:Nat) (fm:List DV->M DV):Prop where
 ex:∃fn fd ps,FnOk P w K mg base (xq P w) k fn fd ps (IB n fm)/\mg x=some (.ref fn)/\PySem.W.keepIn K (.ref fn)=true/\gi K fd ps []
theorem HasX.mono {P:Program} {w:World} {K:Lb} {mg:Str->Option Value} {base:Heap} {j k:Nat} {x:Str} {n:Nat} {fm:List DV->M DV} (h:HasX P w K mg base j x n fm) (hj:j<=k):HasX P w K mg base k x n fm:=by
 obtain ⟨fn,fd,ps,h1,h2,h3,h4⟩:=h.ex;exact ⟨fn,fd,ps,h1.mono hj,h2,h3,h4⟩
theorem Df.hasX {P:Program} {x:Str} (D:Df K mg x st ps)
  (h:∀f fd,Fun K x x st f fd->FnOk P w K mg base (xq P w) k f fd ps (IB n fm)):HasX P w K mg base k x n fm:=by
 obtain ⟨f,fd,Fu,hm,hb⟩:=D;exact ⟨f,fd,ps,h f fd Fu,hm,Fu.kp,hb⟩
noncomputable def eB (n:Nat) (fm:List DV->M DV) (xs:List DV):M DV:=bd (op (args xs)) fun ys=>if ys.length=n then fm ys else none
section
variable {X:Cx} {E:XK} {e:Expr} {es:List Expr} {pos p np F' p2:Pos} {fr:DS->M (List DV)} {x:Str} {C:Addr} {z:Str} {jj:Nat}
theorem gj (F:HasX X.prog X.w X.K X.mg X.base k x n fm) (hr:Room k X.A) (pass:jv (xq X.prog X.w) X E) (ha:vg X E (e::es) fr) (hg:Gl X x:=by rfl) (Mi:(x==("__debug__" : Str))=false:=by decide)
  (he:starEach (e::es) X.env=(false,eval e X.env)::starEach es X.env:=by rfl) (L9:(backTo pos (starEach es X.env)).any (·.1)=false:=by rfl) :
  PX X E (.Call (.Name x p) (e::es) [] pos) (aN (eB n fm) fr):=by
 obtain ⟨fn,fd,ps,h1,h2,h3,h4⟩:=F.ex;refine PE.mono (zi h1 hr hg h2 h3 h4 .nil pass ha Mi he L9) fun σ H Q q=>nP (g:=fun _=>eB n fm) q fun O P δ xs r vs H1 rs LC s1 rx e q=>?_;obtain ⟨ys,e1,e2⟩:=bQ e;split at e2
 ·rename_i hl;have ry:=lU.hand rs.dom s1 rx e1;refine ⟨?_,P++O,ys,r,fun a ha=>?_,?_,e2,?_⟩
  ·rw [List.append_nil,<-Paired.length ry]; exact hl
  ·obtain ⟨o,e'⟩:=rs.dom a ha;exact ⟨o,s1 a o e'⟩
  ·rw [List.append_nil]; exact ry
  ·cases r with
   |ok y=>exact fun v H' s2 rv=>q v H' s2 (rv.back s1)
   |error c=>exact q
 ·cases e2
theorem uS (mk:xU X E) (O:Xc X.K X.mg x C) (hg:Gl X x:=by rfl) (hd:(x==("__debug__" : Str))=false:=by decide) :
  ze X E (.Raise (some (.Call (.Name x np) [.Constant (.str z) jj p2] [] F')) none pos) (fun _=>some (.error (.ref C))):=PS.mono (qh mk O hg hd) fun T σ H q=>by
 obtain ⟨O',P,δ,r,rs,e,q⟩:=q;cases e;exact q none H P .refl
end
theorem vk {P:Program} 
  (hr:Room k (A.deeper (envOfC qual scope s0.heap.objs.size f cd))):xU (fj (xq P w) P w K mg base N qual scope f cd A outer s0 H0 E) E:=⟨hr.hd,fun _ _ _ _ _ _ _ _ I hm hE=>yd I hm hE⟩
open Builtin Builtin.ObjectAttr Builtin.Getset_descriptor
section
variable {prog:Program} {w:World} {A:Around} {E:Value->Shared->Prop} {s:Shared} {K:Lb} {x D:Addr}
end
section
variable {X:Cx} {e C:Addr} {oe:Obj} {i:Nat} {n y:Str} {p p1 p2 pos:Pos} {c:Value} {b:Bool}
end
end L3
namespace L2
open PySem PySem.Spec PyProof.Rows
section
variable {X:Cx} {k:Nat} {js:List Nat} {N':List Str} {scope:Scope} {elt tg iter:Expr} {ifs:List Expr} {pos:Pos} {wi:TI} {g:TG} {tc:TT} {te:TE}
theorem Be {use:Option (Value->Sem Unit)} {Q':Value->Shared->Prop} {ip:Pos} (S:CompFit X k js N' scope) (hc:X.calm=true) (hi:PI X tg iter wi)
  (hg:∀C s₂ H₂ fp,PG (aQ X N' scope C s₂ H₂ fp) tg g) (hf:∀C s₂ H₂ fp,PF (aQ X N' scope C s₂ H₂ fp) ifs tc) (he:∀C s₂ H₂ fp,PE (aQ X N' scope C s₂ H₂ fp) elt te)
  {pins:List (Addr×Obj)} {s:Shared} {σ:St} {H:Hp} {Q:VK} (I:Inv X pins σ H s) (h:vU wi k js g tc te σ H Q)
  (hend:∀(D C:Addr) (s4:Shared) (m:Str->Option Value),s4.heap.Ns C m->X.s₀.heap.objs.size<=C->C≠X.env.locals->(∀x c,X.env.cells.lookup x=some c->c≠C)->(∀p∈X.pn++pins,p.1≠C) ->
   (∀h',Heap.SameBut C s4.heap h'->∃H5,Inv X pins σ H5 { s4 with heap:=h' }/\H5 C=none/\Q (.ref D) H5)->compPost (model X.prog X.w) X.A X.xe use Q' (.ref D) C (.ok .next) s4)
  (hs:∀x,foldedSetIterable iter X.env x=pure x) :
  wpAny (model X.prog X.w) X.A (comprehension (.ListComp elt [⟨tg,iter,ifs,0⟩] scope pos) scope X.env ip (newList []) false (eval iter X.env) use) Q' X.xe s:=by
 refine wpAny_comprehension_free (use:=use) rfl hs (yv fun y hy hk=>I.ok.has y.1 (S.free y hy hk)) S.kind S.loc ?_;refine cG (hi pins s σ H _ I h) fun v s1 h1=>cG h1 fun itv s₂ h2=>?_;obtain ⟨it,fp,tn,J,H₂,rfl,I2,T,LH,f2,W,⟨m0,w0⟩,turn⟩:=h2;have N5:∀b∈fp,b<s₂.heap.objs.size:=fun b hb=>by obtain ⟨o,e,_⟩:=T.obj 0 _ LH b hb; exact K5 e
 refine wpAny_newObj_type (wpAny_newFunctionEnv S.nocell (by intro y hy; simp at hy) (fun h₁ Nf MM=>?_) S.kind);dsimp only at Nf MM ⊢;generalize hH2:s₂.heap.push { cls:=.type "list",dict:=none,data:=.seq ([]:List Value).toArray }=G at Nf MM ⊢;have hC:G.objs.size=s₂.heap.objs.size+1:=by rw [<-hH2,Heap.size_push]
 have NT:s₂.heap.objs.size≠G.objs.size:=by lia
 have MP:s₂.heap.objs.size<=G.objs.size:=by lia
 have old:∀b o,s₂.heap.get? b=some o->h₁.get? b=some o:=fun b o e=>MM.extBut b o (ik e MP) (KW _ (hH2▸KW _ e));have OO:h₁.get? s₂.heap.objs.size=some { cls:=.type "list",data:=.seq ([]:List Value).toArray }:=MM.extBut _ _ NT (KW _ (hH2▸Lv _ rfl));have NR:∀b∈fp,mD X pins H₂ b/\b<s₂.heap.objs.size:=fun b hb=>⟨f2 b hb,N5 b hb⟩;have I0:∀tk,Inv (aQ X N' scope G.objs.size s₂ H₂ fp) [] (jY k js σ) H₂ { s₂ with heap:=h₁,toks:=tk }:=fun tk=>pz I2 S MP NR old Nf;generalize hD:s₂.heap.objs.size=D at *;have Nd:∀{H':Hp} {s':Shared} {σ':St} {pp:List (Addr×Obj)} {o:Obj},Inv (aQ X N' scope G.objs.size s₂ H₂ fp) (pp++[(D,o)]) σ' H' s'->H' D=none/\s'.heap.get? D=some o:=fun {H' s' σ' pp o} J=>by
  have q:=J.pin (D,o) (KY _ (KY _ (Lg.mpr rfl)));exact ⟨q.2.1,q.1⟩
 have OK:D∉iP X.stack:=fun z=>by
  obtain ⟨_,o,ho,_⟩:=I2.stack.mem z;exact ik ho (Lx hD) rfl
 have M7:∀x c,(aQ X N' scope G.objs.size s₂ H₂ fp).env.cells.lookup x=some c->c≠D:=fun x c e z=>by
  obtain ⟨v,q⟩:=I2.cell x c (cw (fun d hd=>by simp at hd) e);exact dZ q.lt (Lx hD) z
 have Mj:∀{H':Hp} {pp:List (Addr×Obj)},(∀b∈fp,H' b=none)->(∀p∈pp,p.1=D)->∀b∈fp,mD (aQ X N' scope G.objs.size s₂ H₂ fp) pp H' b:=fun {H' pp} hn hp b hb=>by
  refine ⟨hn b hb,fun z=>?_,fun z=>?_,.inl hb,fun x c e=>(NR b hb).1.2.2.2.2.1 x c (cw (fun d hd=>by simp at hd) e),fun p M1 z=>?_⟩
  ·exact dZ (N5 b hb) MP z
  ·rcases Lc.mp (I2.stkSub b z) with e|e
   ·exact (NR b hb).1.2.1 e
   ·exact (NR b hb).1.2.2.1 e
  ·have e1:p.1=D:=hp p (by simpa [aQ] using M1);exact dZ (N5 b hb) (K2 _) (z.symm.trans e1)
 have Ox:∀{σ':St} {H':Hp} {s':Shared} {ys:List Value} {c:Nat},Inv (aQ X N' scope G.objs.size s₂ H₂ fp) [] σ' H' s'->s'.heap.get? D=some { cls:=.type "list",data:=.seq ys.toArray c }->H' D=none ->
   Inv (aQ X N' scope G.objs.size s₂ H₂ fp) [(D,{ cls:=.type "list",data:=.seq ys.toArray c })] σ' H' s':=fun {σ' H' s' ys c} J e n=>J.pins_of fun p hp=>by
  have e1:=Lg.mp hp;subst e1;exact ⟨e,n,NT,OK,fun v z=>by cases z⟩
 have loop:∀s₃:Shared,(∃tk,s₃={ s₂ with heap:=h₁,toks:=tk })->codeAny (model X.prog X.w) X.A (.compLoop (.ListComp elt [⟨tg,iter,ifs,0⟩] scope pos) 0 (.ref it) (.ref D) (aQ X N' scope G.objs.size s₂ H₂ fp).env)
   (compPost (model X.prog X.w) X.A X.xe use Q' (.ref D) G.objs.size) s₃:=by
  rintro s₃ ⟨tk,rfl⟩;refine pA (fun n s'=>∃i σ' H' xs ys c,Inv (aQ X N' scope G.objs.size s₂ H₂ fp) [] σ' H' s'/\tn i s'.heap/\(∀b∈fp,H' b=none)/\H' D=none/\s'.heap.get? D=some { cls:=.type "list",data:=.seq ys.toArray c }/\aX xs ys/\W i n σ' H' xs)
   ?_ m0 ⟨0,_,H₂,[],[],0,I0 tk,T.keep _ _ _ LH fun b hb o e=>old b o e,fun b hb=>(f2 b hb).1,I2.hok.fresh 0x1,OO,.nil,w0⟩
  rintro n s' ⟨i,σ',H',xs,ys,c,J',D',fr',nD,eD,rv,w'⟩;have J1:=Ox J' eD nD;rcases turn i n σ' H' xs w' with ⟨stop,hz,fin⟩|⟨go,hz,step⟩
  ·refine cG (T.done (aQ X N' scope G.objs.size s₂ H₂ fp) rfl rfl rfl hc i _ s' σ' H' _ J1 (Mj fr' fun p hp=>by rw [Lg.mp hp]) D' stop) fun r s4 ⟨hr,J4⟩=>?_;subst hr;obtain ⟨nD4,eD4⟩:=Nd (pp:=[]) J4;obtain ⟨mC,hnC,_⟩:=J4.loc;refine hend D G.objs.size s4 mC hnC (by have:=I2.sz; lia) (fun z=>dZ (Lq I2.lt 0x1) (K2 G.objs.size) z.symm) (fun x c e z=>?_) (fun p hp z=>?_) fun h' NM=>?_
   ·obtain ⟨v,q⟩:=I2.cell x c e;exact dZ (Lq q.lt 0x1) (K2 G.objs.size) z
   ·exact dZ (Lq (K5 (I2.pin p hp).1) 0x1) (K2 G.objs.size) z
   have L0:∀b o,b≠G.objs.size->s4.heap.get? b=some o->h'.get? b=some o:=fun b o hb e=>NM.extBut b o hb e;have hC4:H' G.objs.size=none:=J4.free;have hun:Un (iP X.stack) fp H₂ (bX H' D (.lst xs)) s₂.heap h':=by
    have u:=J4.base;have neD:∀b o,s₂.heap.get? b=some o->b≠D:=fun b o e=>ik e (Lx hD);have Nz:∀b o,s₂.heap.get? b=some o->b≠G.objs.size:=fun b o e=>ik e (by rw [hD]; exact MP);have Nc:∀b o,H₂ b=some o->b≠D:=fun b o e=>dZ (I2.hok.lt e) (Lx hD);refine ⟨fun b o e n hb hx=>L0 b o (Nz b o e) (u.keep b o e n hb hx),fun b o e n hb hx=>?_,fun b o e n hx=>by rw [aG (neD b o e)]; exact u.free b o e n hx,fun b o e hx=>?_,
     fun b xs e=>by rw [aG (Nc b _ e)]; exact u.tups b xs e,fun b o z e=>by rw [aG (Nc b _ e)]; exact u.frzs b o z e,fun b ps e=>by rw [aG (Nc b _ e)]; exact u.tbls b ps e⟩
    ·obtain ⟨sl,q⟩:=u.slot b o e n hb hx;exact ⟨sl,L0 b _ (Nz b o e) q⟩
    ·obtain ⟨o',q⟩:=u.there b o e hx;exact ⟨o',L0 b _ (Nz b o e) q⟩
   have OU:k6 X.prog X.w (bX H' D (.lst xs)) h':=by
    intro b u e;by_cases hb:b=D
    ·subst hb;rw [aW] at e;cases e;exact ⟨hz,ys,c,rv,L0 _ _ NT eD4⟩
    ·rw [aG hb] at e;have hnD:∀a o,H' a=some o->a≠D:=fun a o e z=>by rw [z,nD4] at e; cases e
     refine (J4.hok b u e).stay (fun a v ha q=>L0 a v ?_ q) (fun a q=>by rw [aG (hnD a _ q)]; exact q) fun a zs q=>by rw [aG (hnD a _ q)]; exact q
     rintro rfl;rcases ha with z|z
     ·rw [<-z,hC4] at e; cases e
     ·rw [hC4] at z; cases z
   refine ⟨bX H' D (.lst xs),I2.call' (s':={ s4 with heap:=h' }) J4.os hun OU J4.bare (fun b hb=>?_),by rw [aG (Ne.symm NT)]; exact hC4,fin D nD4⟩;exact ⟨(f2 b hb).2.2.2.1,(f2 b hb).2.1,(f2 b hb).2.2.2.2.1,(f2 b hb).2.2.2.2.2⟩
  ·refine cG (T.item (aQ X N' scope G.objs.size s₂ H₂ fp) rfl rfl rfl hc i _ s' σ' H' FW J1 (Mj fr' fun p hp=>by rw [Lg.mp hp]) D' go) fun r s4 ⟨u,hr,h4⟩=>?_;subst hr;refine cG h4 fun _ s5 ⟨x,H5,I5,r5,y5,Nr,fr5⟩=>?_;have I5':=I5.pinned (Mj fr5 fun p hp=>by rw [Lg.mp hp]) (T.obj _ _ Nr);refine cG (hg _ _ _ _ _ s5 σ' H5 x u _ I5' r5 (step x H5 y5)) fun _ s6 ⟨σ6,H6,I6,q6⟩=>?_;refine cG (hf _ _ _ _ _ s6 σ6 H6 _ I6 q6) fun ok s7 ⟨H7,I7,q7⟩=>?_;have back:∀{σ8:St} {H8:Hp} {s8:Shared},Inv (aQ X N' scope G.objs.size s₂ H₂ fp) ([(D,{ cls:=.type "list",data:=.seq ys.toArray c })]++mZ fp s5.heap) σ8 H8 s8 ->
     Inv (aQ X N' scope G.objs.size s₂ H₂ fp) [] σ8 H8 s8/\tn (i+1) s8.heap/\(∀b∈fp,H8 b=none)/\H8 D=none/\s8.heap.get? D=some { cls:=.type "list",data:=.seq ys.toArray c }:=fun {σ8 H8 s8} J=>by
    have pd:=J.pin (D,{ cls:=.type "list",data:=.seq ys.toArray c }) (KY _ (KZ _ (Lg.mpr rfl)));have pf:∀b∈fp,∀o,s5.heap.get? b=some o->s8.heap.get? b=some o/\H8 b=none:=fun b hb o e=>by
     have q:=J.pin (b,o) (KY _ (KY _ (je hb e)));exact ⟨q.1,q.2.1⟩
    refine ⟨J.pins_of fun p hp=>absurd hp 0x4,T.keep _ _ _ Nr fun b hb o e=>(pf b hb o e).1,fun b hb=>?_,pd.2.1,pd.1⟩;obtain ⟨o,e,_⟩:=T.obj _ _ Nr b hb;exact (pf b hb o e).2
   cases ok with
   |false=>
    simp only [Bool.false_eq_true,if_false] at q7 ⊢;obtain ⟨m',hm,w7⟩:=q7;obtain ⟨b1,b2,b3,b4,b5⟩:=back I7;exact ⟨m',hm,i+1,σ6,H7,xs,ys,c,b1,b2,b3,b4,b5,rv,w7⟩
   |true=>
    simp only [if_true] at q7 ⊢;refine cG (he _ _ _ _ _ s7 σ6 H7 _ I7 q7) fun u8 s8 ⟨v8,H8,I8,r8,q8⟩=>?_;obtain ⟨m',hm,w8⟩:=q8;obtain ⟨b1,b2,b3,b4,b5⟩:=back I8;refine append_at b5 (fun h9 hs9 e9=>?_) (by rw [List.size_toArray,<-rv.length]; exact Nat.le_of_lt hz);have I9:Inv (aQ X N' scope G.objs.size s₂ H₂ fp) [] σ6 H8 { s8 with heap:=h9 }:=b1.turned (t':=s8.toks) (it:=D) (fun b o hb e=>(hs9.2 b hb).trans e) b4 NT (.inr (by show s₂.heap.objs.size<=D; lia)) M7 fun p hp=>absurd (show p∈([]:List (Addr×Obj)) from hp) 0x4;refine ⟨m',hm,i+1,σ6,H8,xs++[v8],ys++[u8],c+1,I9,T.keep _ _ _ b2 fun b hb o e=>(hs9.2 b ?_).trans e,b3,b4,?_,aX.append rv (.cons r8 .nil),w8⟩
    ·exact dZ (N5 b hb) (K2 _)
    ·rw [e9,List.push_toArray]
 exact codeAny_compStart_list (loop _ ⟨_,rfl⟩) (T.self _ 0 _ _ _ (T.keep _ _ _ LH fun b hb o e=>old b o e) (loop _ ⟨_,rfl⟩))
theorem Fh {i:Nat} {y:Str} {py NH:Pos} (S:CompFit X k js N' scope) (hc:X.calm=true) (hN:X.N.Nodup) (hi:X.N[i]?=some y) (hx:X.env.scope.names.lookup y=some .local) (hit:PI X tg iter wi)
  (hg:∀C s₂ H₂ fp,PG (aQ X N' scope C s₂ H₂ fp) tg g) (hf:∀C s₂ H₂ fp,PF (aQ X N' scope C s₂ H₂ fp) ifs tc) (he:∀C s₂ H₂ fp,PE (aQ X N' scope C s₂ H₂ fp) elt te)
  (N6:swapsWith (.ListComp elt [⟨tg,iter,ifs,0⟩] scope pos) (some (.Name y py)) NH.line X.env=pure true) (hs:∀x,foldedSetIterable iter X.env x=pure x) :
  PS X (.Assign [.Name y py] (.ListComp elt [⟨tg,iter,ifs,0⟩] scope pos) NH) (F6 (vU wi k js g tc te) (nR i)):=by
 intro pins s σ H D I h;rw [exec_Assign_Name_used _ _ _ _ N6];refine K3 (wpAny_standAt (K3 ?_));show wpAny _ X.A (do let _ <-comprehension (.ListComp elt [⟨tg,iter,ifs,0⟩] scope pos) scope X.env _ (newList []) false (eval iter X.env) (some (assign (.Name y py) X.env))) _ _ s;refine K3 (wpAny_mono (Be (use:=some (assign (.Name y py) X.env)) (Q':=fun _ s'=>SP X pins D .next s') S hc hit hg hf he I h (fun Dd C s4 m hn h0 h1 h2 h3 hfin=>?_) hs) (fun _ s' hq=>K4 (K4 hq)) fun _ _ e=>e);obtain ⟨H5,I5,n5,q5⟩:=hfin s4.heap (Heap.SameBut.refl _ _);show wpAny _ X.A (assign (.Name y py) X.env (.ref Dd)) _ X.xe s4;refine wpAny_assign_Name (rf (v:=.ref Dd) I5 hN hi (.inl hx) rfl (fun s5 I6 ⟨a,Oc,ha⟩=>?_) (.inr hx));have haC:C≠a:=fun z=>by
  rcases ha with e|e
  ·exact h1 (z.trans e)
  ·exact h2 y a e z.symm
 refine ⟨m,hn.sameBut Oc haC,fun h' NM=>⟨σ.set i (some (.ref Dd)),H5,?_,q5⟩⟩;exact I6.turned (t':=s5.toks) (it:=C) (fun b o hb e=>(NM.2 b hb).trans e) n5 h1 (.inr h0) h2 h3
end
end L2
namespace L3
open PySem PySem.Spec L2
open PyProof.Rows hiding St
section
variable {X:Cx} {E:XK} {k:Nat} {js:List Nat} {N':List Str} {scope:Scope} {elt tg iter:Expr} {ifs:List Expr} {pos py NH:Pos} {y:Str} {i:Nat} {fi:DS->M (List D)} {g:TG} {sf:D->DS->Option DS} {gc:DS->M Bool} {fe:DS->M DV}
theorem l5 (S:CompFit X k js N' scope) (hj:js.Nodup) (hc:X.calm=true) (hN:X.N.Nodup) (hit:Dl X E tg iter fi) (ht:C7 g sf) (LR:∀δ d δ1,sf d (cj k js δ)=some δ1->Sub (cj k js δ) δ1)
  (hg:∀C s₂ H₂ fp,PG (aQ X N' scope C s₂ H₂ fp) tg g) (hf:∀C s₂ H₂ fp,PF (aQ X N' scope C s₂ H₂ fp) ifs (zm E0 gc)) (he:∀C s₂ H₂ fp,PX (aQ X N' scope C s₂ H₂ fp) E0 elt fe)
  (hi:X.N[i]?=some y:=by rfl) (hx:X.env.scope.names.lookup y=some .local:=by rfl) (N6:swapsWith (.ListComp elt [⟨tg,iter,ifs,0⟩] scope pos) (some (.Name y py)) NH.line X.env=pure true:=by rfl)
  (hs:∀x,foldedSetIterable iter X.env x=pure x:=by intro _; rfl):ze X E (.Assign [.Name y py] (.ListComp elt [⟨tg,iter,ifs,0⟩] scope pos) NH) (aR i (aK k js fi sf gc fe)):=
 PS.mono (Fh S hc hN hi hx hit hg hf he N6 hs) fun T σ H q=>rK hj ht LR (by
  obtain ⟨O,P,δ,r,rs,e,q⟩:=q;rcases az e with ⟨x,e1,e2⟩|⟨cx,e1,e2⟩
  ·obtain ⟨z,e3,e4⟩:=bQ e2;cases e4;refine ⟨O,P,δ,.ok x,rs,e1,fun v H1 s1 rx=>?_⟩;obtain ⟨P',kp,LY⟩:=rs.asg s1 rx e3 i;exact q _ H1 P' kp LY
  ·subst e2;exact ⟨O,P,δ,.error cx,rs,e1,fun dx H' s=>q dx H' P (.same s)⟩)
end
section
variable {X:Cx} {E:XK}
theorem Bg {prog:Program} {w:World} {A:Around} {E:Value->Shared->Prop} {s:Shared} {t b:Addr} {ws:List Value} {Q:Value->Shared->Prop} (ht:IsTup s.heap t #[]) (hb:IsTup s.heap b ws.toArray) (h:Q (.ref b) s):wpAny (model prog w) A (binaryOp .Add (.ref t) (.ref b)) Q E s:=by
 obtain ⟨⟨c1,d1,a1,l1⟩,o1,q1,n1,z1⟩:=id ht;obtain ⟨⟨c2,d2,a2,l2⟩,o2,q2,n2,z2⟩:=id hb;simp only at q1 z1 q2 z2;subst q1 z1 q2 z2;exact concat_meets ⟨_,o1,rfl⟩ ⟨_,o2,rfl⟩ noFill_tuple_add seq_tuple_add PySem.F.slot_tuple_add PySem.F.entry_tuple_add (PySem.F.args_tuple_add_2 _ _) (tuple_addW0 t b #[] ws.toArray n1 n2 d1 d2 l1 l2 rfl) ⟨o1,o2,h⟩
noncomputable def Bh (x y:DV):M DV:=match x,y with
 |.d (.tuple xs),.d (.tuple ys)=>if xs.length+ys.length<=1000000 then rt (.d (.tuple (xs++ys))) else none
 |_,_=>none
theorem Ea:hJ X E (binaryOp .Add) Bh:=fun pins s σ O P H₀ H x y v u vv uu r Q I hd hs rx ry ev eu e q=>by
 unfold Bh at e;split at e
 ·rename_i xs ys;split at e
  ·rename_i hz;cases e;have rx':Rp (P++O) H (.tuple xs) v:=rx;have ry':Rp (P++O) H (.tuple ys) u:=ry;cases rx' with
   |@tup a _ vs za ha la=>
    cases ry' with
    |@tup b _ us zb hb lb=>
     cases xs with
     |nil=>
      cases la;cases ev;cases eu;obtain ⟨i1,r1,p1,_⟩:=I.tuple (kM.of ha);obtain ⟨i2,r2,p2,_⟩:=I.tuple (kM.of hb);cases r1;exact Bg p1 p2 ⟨.ref b,H,I,rfl,q _ H (aF.refl H) (.tup zb hb lb)⟩
     |cons x0 xr=>
      refine Fg pins s σ H (.ref a) (.ref b) vv uu Q I ev eu ⟨a,b,vs,us,rfl,rfl,kM.of ha,kM.of hb,fun z=>?_,line_big (by rw [<-la.length,<-lb.length]; exact hz),fun z=>?_,fun z p hp=>?_⟩
      ·subst z; cases la
      ·subst z;cases lb;rw [List.append_nil] at q;exact q _ H (aF.refl H) (.tup za ha la)
      ·exact q _ _ (bw hp) (AH hd hs hp (la.append lb))
  ·cases e
 ·cases e
noncomputable def aw:=Di br Bh
theorem aP:hJ X E (binaryOp .Add) aw:=ck.or Ea
noncomputable def qD (xs:List DV):M DV:=match xs with
 |[x]=>match mR x with
  |some (.list ys)=>rt (.d (.tuple ys))
  |some (.tuple ys)=>rt (.d (.tuple ys))
  |_=>none
 |_=>none
theorem B9:d4 X E (.type "tuple") qD:=d4.of qY fun O P H₀ H xs vs r Q hd hs rx e q=>by
 unfold qD at e;split at e
 ·rename_i x;cases rx with
  |cons r1 rr=>
   cases rr;split at e
   ·rename_i ys h;cases e;obtain ⟨a,ws,rfl,ha,l⟩:=r1.look.1 h;exact ⟨a,ws,rfl,.inl ⟨eN.of ha,fun p hp=>q _ _ (bw hp) (AH hd hs hp l)⟩⟩
   ·rename_i ys h;cases e;cases x with
    |d z=>
     cases h;have r':Rp (P++O) H (.tuple ys) _:=r1;cases r' with
     |tup hz ha l=>exact ⟨_,_,rfl,.inr ⟨kM.of ha,q _ H (aF.refl H) (.tup hz ha l)⟩⟩
    |ob C fs=>cases h
    |fz kvs=>cases h
    |ex q=>cases h
    |tpo p xs q=>cases h
    |nwt p xs q=>cases h
    |own zs=>cases h
    |new zs=>cases h
    |scr K ns=>cases h
   ·cases e
 ·cases e
noncomputable def nI (i:Nat) (f:DS->M DV) (δ:DS):M Out:=match δ[i]? with
 |some (some (.own xs))=>bd (f δ) fun x=>match x with
  |.new ys=>if xs.length+ys.length<=1000000 then rt (.nx (δ.set i (some (.own (xs++ys))))) else none
  |.d (.list ys)=>if xs.length+ys.length<=1000000 then rt (.nx (δ.set i (some (.own (xs++ys))))) else none
  |_=>none
 |_=>none
variable {e o:Expr} {pos apos F':Pos} {f:DS->M DV} {i:Nat}
theorem wC (ho:PE X o (ph i)) (he:PX X E e f)
  (L8:attributeBase o "extend" X.env (eval o X.env)=eval o X.env:=by rfl)
  (ML:((backTo F' (starEach [e] X.env)).all (fun x=>!x.1)&&(backToKw F' (keywordEach [] X.env)).all (fun x=>x.1.isSome)
   && decide ([e].length+([]:List Keyword).length+(if ([]:List Keyword).isEmpty then 0 else 1)<30))=true:=by rfl)
  (L7:(apos.endLine==F'.line)=true:=by rfl) (hs:starEach [e] X.env=(false,eval e X.env)::starEach [] X.env:=by rfl) (LV:(backTo F' (starEach [] X.env)).any (·.1)=false:=by rfl)
  (N6:swapsWith (.Call (.Attribute o "extend" apos) [e] [] F') none pos.line X.env=pure false:=by rfl):ze X E (.Expr (.Call (.Attribute o "extend" apos) [e] [] F') pos) (nI i f):=
 PS.mono (mm (vi PySem.F.plainAttrs_list PySem.F.slot_list_extend PySem.F.type_list_extend As ho (kG he lP hs) L8 ML L7 hs LV) N6) fun T σ H q=>by
  obtain ⟨O,P,δ,r,rs,e,q⟩:=q;unfold nI at e;split at e
  ·rename_i xs ei;obtain ⟨v,ev,_,a,vs,rfl,hP,ha,l⟩:=rs.at' i _ ei;refine ⟨.ref a,ev,.inl ⟨rfl,_,eN.of ha⟩,?_⟩;rcases az e with ⟨x,e1,e2⟩|⟨cx,e1,e2⟩
   ·refine ⟨O,P,δ,.ok x,rs,e1,fun u H1 s1 rx=>?_⟩;have fin:∀ys b us,u=.ref b->H1 b=some (.lst us)->RpL (P++O) H1 ys us->xs.length+ys.length<=1000000->r=.ok (.nx (δ.set i (some (.own (xs++ys)))))->yN (.ref a) [u] H1 fun _ H2=>T.nx σ H2:=fun ys b us eu hb lb hz er=>by
     subst eu er;have l1:=(l.kp (.same s1)).append lb;obtain ⟨kp,LY⟩:=(rs.same s1).grow ei ev l1 hP;exact ⟨a,b,vs,us,rfl,rfl,s1 a _ ha,hb,line_big (by rw [<-l.length,<-lb.length]; exact hz),q σ _ P ((Kp.same s1).trans kp) LY⟩
    split at e2
    ·rename_i ys;split at e2
     ·rename_i hz;cases e2;obtain ⟨b,us,eu,hb,lb⟩:=rx.list (xs:=ys) rfl;exact fin ys b us eu hb lb hz rfl
     ·cases e2
    ·rename_i ys;split at e2
     ·rename_i hz;cases e2;obtain ⟨b,us,eu,hb,lb⟩:=rx.list (xs:=ys) rfl;exact fin ys b us eu hb lb hz rfl
     ·cases e2
    ·cases e2
   ·subst e2;exact ⟨O,P,δ,.error cx,rs,e1,fun dx H' s=>q dx H' P (.same s)⟩
  ·cases e
end
section
variable {X:Cx} {E:XK} {a b e o:Expr} {fa fb fo fe:DS->M DV} {pos:Pos}
noncomputable def Ge (x:DV):M Bool:=bd (op (k7 x)) fun ys=>rt (!ys.isEmpty)
theorem HP (h:PX X E e fe) (he:∀whole,isTrue e X.env whole=(do let v <-whole; standAt e.pos; holding [v] (truthy v)):=by intro _; rfl):PB X E e (fun δ=>bd (fe δ) Ge):=
 PT.mono (Bd h he) fun σ H Q q=>tU (g:=fun _=>Ge) q fun O P δ x r v H1 rs LC s1 rx e' q'=>by
  obtain ⟨ys,h1,h2⟩:=bQ e';cases h2;obtain ⟨a,ws,rfl,ha,l⟩:=rx.list h1;refine ⟨!ys.isEmpty,.inl ⟨ws,eN.of ha,?_⟩,q' H1 (aF.refl H1)⟩;cases l <;> rfl
end
open PySem PySem.Spec L2 PySem.SeqAt PySem.MeetsSeq
noncomputable abbrev J8 (B':Array Value) (c:Nat):Obj:={ cls:=.type "list",dict:=none,data:=.seq B' c,slots:=#[] }
noncomputable abbrev HX (l:Addr) (B':Array Value) (c:Nat) (x:Value) (q:Value->Bool) (j:Nat):PySem.Spec:=fun A R s=>s.heap.get? l=some (J8 B' c)/\(∀y,y∈B'->EqAt A.in1 s y x (q y))/\R (.ok (.ret .none)) { s with heap:=s.heap.update l (Obj.mapSeq fun zs=>zs.eraseIdxIfInBounds j) }
theorem B7 (l:Addr) (B':Array Value) (c:Nat) (x:Value) (q:Value->Bool) (j:Nat) (hj:j<B'.size) (yes:q B'[j]=true) (hz:B'.size<=sizeLine):∀k i:Nat,j-i=k->i<=j->(∀m (hm:m<B'.size),i<=m->m<j->q B'[m]=false) ->
  Meets (Builtin.«list.remove.loop» ⟨[.ref l,x,rawInt i],[]⟩) (HX l B' c x q j):=by
 intro k
 induction k with
 |zero=>
  intro i k0 le no prog w A R s ⟨at_,eqs,fin⟩;obtain ⟨hp,gs,dr,tk,os⟩:=s;obtain rfl:i=j:=by lia
  wp_walk using AutoSeq1.wpAny_loadPart' at_
  rw [show B'[((i:Nat):Int).toNat]?=some B'[i] by simp [hj]];refine K3 (eqs _ (Array.getElem_mem hj) prog w _ _ ?_); rw [yes]
  have few:(B'.eraseIdxIfInBounds i).size<=sizeLine+1:=Lp (size_erased B' _) (Nat.le_succ_of_le hz)
  wp_walk using (wpAny_updateSeq at_ rfl (hz:=hz) (_hz':=few)),AutoSeq1.wpAny_loadPart' at_
  simpa using fin
 |succ k ih=>
  intro i k1 le no prog w A R s ⟨at_,eqs,fin⟩;obtain ⟨hp,gs,dr,tk,os⟩:=s;have lt:i<B'.size:=by lia
  wp_walk using AutoSeq1.wpAny_loadPart' at_
  rw [show B'[((i:Nat):Int).toNat]?=some B'[i] by simp [lt]];refine K3 (eqs _ (Array.getElem_mem lt) prog w _ _ ?_); rw [no i lt (K2 _) 0x1]
  wp_walk
  rw [show ((i:Int)+1)=((i+1:Nat):Int) by push_cast; rfl];refine ⟨plainId_quiet plain_remove_loop _,codeAny_builtin entry_remove_loop ?_⟩;rw [Around.under_plainId plain_remove_loop _]; exact ih (i+1) 0x1 0x1 (fun m hm h1 h2=>no m hm 0x1 h2) prog w A R _ ⟨at_,eqs,fin⟩
theorem Hr (l:Addr) (B':Array Value) (c:Nat) (x:Value) (q:Value->Bool) (j:Nat) (hj:j<B'.size) (yes:q B'[j]=true) (no:∀m (hm:m<B'.size),m<j->q B'[m]=false) (hz:B'.size<=sizeLine):Meets (Builtin.«list.remove» ⟨[.ref l,x],[]⟩) (HX l B' c x q j):=by
 intro prog w A R s ⟨at_,eqs,fin⟩;obtain ⟨hp,gs,dr,tk,os⟩:=s
 wp_walk using AutoSeq1.wpAny_loadPart' at_
 refine ⟨plainId_quiet plain_remove_loop _,codeAny_builtin entry_remove_loop ?_⟩;rw [Around.under_plainId plain_remove_loop _]; exact B7 l B' c x q j hj yes hz _ 0 rfl (Lo _) (fun m hm _ h2=>no m hm h2) prog w A R _ ⟨at_,eqs,fin⟩
section
variable {X:Cx} {E:XK} {e o:Expr} {f:DS->M DV} {pos:Pos}
def Kf (x:V) (vs:List V) (H:Hp) (Q:VK):Prop:=∃O P H₀ l ys ws dy v d j,x=.ref l/\vs=[v]/\H l=some (.lst ws)/\RpL (P++O) H ys ws/\RE O P H₀ H dy v/\mR dy=some d/\d.depth<=60/\ys.findIdx? (fun z=>PyData.eqv z d)=some j/\Q .non (bX H l (.lst (ws.eraseIdx j)))
theorem zA (hu:X.A.units+64<cLine):JF X "list.remove" Kf:=fun pins s σ H x xs v us Q I rx rs h=>by
 obtain ⟨O,P,H₀,a,ys,ws,dy,w,d,j,rfl,rfl,ha,l,r2,h2,Nv,hj,q⟩:=h;obtain ⟨u,rfl,ru⟩:=pq rs;cases rx;obtain ⟨z,B',n,r,hl,e⟩:=I.lstM ha;obtain ⟨⟨as,ra⟩,la⟩:=r2.reads I ru h2;obtain ⟨bs,rb⟩:=RpL.reads I l r;have hm:B'.map (readOf s.heap)=ys:=SeqAt.readsAll_map ys _ _ l.lay rb;rw [List.findIdx?_eq_some_iff_getElem] at hj;obtain ⟨hj1,hj2,hj3⟩:=hj;subst hm;have NV:j<B'.toArray.size:=by simpa using hj1
 refine call_meets PySem.F.slot_list_remove ⟨_,e,rfl⟩ PySem.F.entry_list_remove (PySem.F.args_list_remove_2 _ _) (Hr a B'.toArray n u (fun y=>PyData.eqv (readOf s.heap y) d) j NV (by simpa using hj2) (fun m hm lt=>by simpa using hj3 m lt) (by rw [List.size_toArray]; lia))
  ⟨e,SeqAt.items_eqAt (vs:=B'.toArray) rb ra l.lay la (by have:=Nat.min_le_right (PyData.depthAll (B'.map (readOf s.heap))) d.depth; lia),?_⟩
 refine ⟨.non,_,I.lset (its':=B'.eraseIdx j) ha e ?_ (r.eraseIdx j) ?_,rfl,q⟩
 ·show B'.toArray.eraseIdxIfInBounds j=(B'.eraseIdx j).toArray;rw [List.eraseIdxIfInBounds_toArray]
 ·have:=su ws j;lia
noncomputable def qI (i:Nat) (f:DS->M DV) (δ:DS):M Out:=match δ[i]? with
 |some (some (.own xs))=>bd (f δ) fun x=>bd (op (mR x)) fun d=>if d.depth<=60 then bd (op (xs.findIdx? fun z=>PyData.eqv z d)) fun j=>rt (.nx (δ.set i (some (.own (xs.eraseIdx j))))) else none
 |_=>none
theorem RpL.erase {Z:List Addr} {H:Hp}:∀{xs:List D} {vs:List V} (j:Nat),RpL Z H xs vs->RpL Z H (xs.eraseIdx j) (vs.eraseIdx j)
 |_,_,_,.nil=>by simp; exact .nil
 |_,_,0,.cons p l=>l
 |_,_,j+1,.cons p l=>.cons p (RpL.erase j l)
theorem BX {i:Nat} {apos F':Pos} (hu:X.A.units+64<cLine) (ho:PE X o (ph i)) (he:PX X E e f)
  (L8:attributeBase o "remove" X.env (eval o X.env)=eval o X.env:=by rfl)
  (ML:((backTo F' (starEach [e] X.env)).all (fun x=>!x.1)&&(backToKw F' (keywordEach [] X.env)).all (fun x=>x.1.isSome)
   && decide ([e].length+([]:List Keyword).length+(if ([]:List Keyword).isEmpty then 0 else 1)<30))=true:=by rfl)
  (L7:(apos.endLine==F'.line)=true:=by rfl) (hs:starEach [e] X.env=(false,eval e X.env)::starEach [] X.env:=by rfl) (LV:(backTo F' (starEach [] X.env)).any (·.1)=false:=by rfl)
  (N6:swapsWith (.Call (.Attribute o "remove" apos) [e] [] F') none pos.line X.env=pure false:=by rfl):ze X E (.Expr (.Call (.Attribute o "remove" apos) [e] [] F') pos) (qI i f):=
 PS.mono (mm (vi PySem.F.plainAttrs_list PySem.F.slot_list_remove PySem.F.type_list_remove (zA hu) ho (kG he lP hs) L8 ML L7 hs LV) N6) fun T σ H q=>by
  obtain ⟨O,P,δ,r,rs,e,q⟩:=q;unfold qI at e;split at e
  ·rename_i xs ei;obtain ⟨v,ev,_,a,vs,rfl,hP,ha,l⟩:=rs.at' i _ ei;refine ⟨.ref a,ev,.inl ⟨rfl,_,eN.of ha⟩,?_⟩;rcases az e with ⟨x,e1,e2⟩|⟨cx,e1,e2⟩
   ·obtain ⟨d,e3,e4⟩:=bQ e2;split at e4
    ·rename_i hz;obtain ⟨j,e5,e6⟩:=bQ e4;cases e6;refine ⟨O,P,δ,.ok x,rs,e1,fun u H1 s1 rx=>?_⟩;have l1:=(l.kp (.same s1));obtain ⟨k,LY⟩:=(rs.same s1).grow ei ev (l1.erase j) hP;exact ⟨O,P,_,a,xs,vs,x,u,d,j,rfl,rfl,s1 a _ ha,l1,rx,e3,hz,e5,q σ _ P ((Kp.same s1).trans k) LY⟩
    ·cases e4
   ·subst e2;exact ⟨O,P,δ,.error cx,rs,e1,fun dx H' s=>q dx H' P (.same s)⟩
  ·cases e
end
section
variable {X:Cx} {E:XK} {o e:Expr} {fo fe:DS->M DV} {pos:Pos}
end
noncomputable def nA:List DV->Option (List D×List D×List D)
 |[]=>none
 |.own xs::r=>(d3 r).map fun q=>([],xs,q)
 |x::r=>match v9 x,nA r with
  |some d,some (p,xs,q)=>some (d::p,xs,q)
  |_,_=>none
theorem lU.split {O P:List Addr} {H H':Hp} (dom:∀a,a∈P++O->∃o,H a=some o):∀{xs:List DV} {vs:List V} {p ys q:List D},lU O P H H' xs vs->nA xs=some (p,ys,q)->∃a ps us qs,vs=ps++.ref a::qs/\a∈P/\H' a=some (.lst us)/\RpL (P++O) H' p ps/\RpL (P++O) H' ys us/\RpL (P++O) H' q qs
 |[],_,_,_,_,_,h=>by cases h
 |x::r,v::vs,p,ys,q,.cons r1 t,h=>by
  have gen:(match v9 x,nA r with
   |some d,some (p,xs,q)=>some (d::p,xs,q)
   |_,_=>none)=some (p,ys,q)->∃a ps us qs,v::vs=ps++.ref a::qs/\a∈P/\H' a=some (.lst us)/\RpL (P++O) H' p ps/\RpL (P++O) H' ys us/\RpL (P++O) H' q qs:=fun h=>by
   split at h
   ·rename_i d p' M0 q' h1 h2;cases h;obtain ⟨a,ps,us,qs,e,hP,ha,l1,l2,l3⟩:=lU.split dom t h2;exact ⟨a,_::ps,us,qs,by rw [e]; rfl,hP,ha,.cons (r1.data dom h1) l1,l2,l3⟩
   ·cases h
  cases x with
  |own zs=>
   unfold nA at h;cases hd:d3 r with
   |none=>rw [hd] at h; cases h
   |some ds=>
    rw [hd] at h;cases h;obtain ⟨a,vs,rfl,hP,ha,l⟩:=r1;exact ⟨a,[],vs,_,rfl,hP,ha,.nil,l,lU.data dom t hd⟩
  |d z=>exact gen h
  |new z=>exact gen h
  |ob C fs=>exact gen h
  |fz kvs=>exact gen h
  |ex z=>exact gen h
  |tpo p xs z=>exact gen h
  |nwt p xs z=>exact gen h
  |scr K ns=>exact gen h
section
variable {X:Cx} {E:XK} {a b e o:Expr} {es:List Expr} {fa fb f fe:DS->M DV} {fr:DS->M (List DV)} {gc:DS->M Bool} {pos:Pos}
noncomputable def Bx (fr:DS->M (List DV)) (δ:DS):M DV:=bd (fr δ) fun xs=>bd (op (nA xs)) fun t=>if xs.length<=1000000 then rt (.tpo t.1 t.2.1 t.2.2) else none
theorem DA {k:Nat} (h:vg X E es fr):PX X E (.Tuple es k pos) (Bx fr):=PE.mono (Cy h) fun σ H Q q=>nP (g:=fun _ xs=>bd (op (nA xs)) fun t=>if xs.length<=1000000 then rt (.tpo t.1 t.2.1 t.2.2) else none) q fun O P δ xs r vs H1 rs LC s1 rx e q=>by
 obtain ⟨⟨p,ys,qq⟩,hd,e⟩:=bQ e;split at e
 ·rename_i hz;cases e;obtain ⟨a,ps,us,qs,e1,hP,ha,l1,l2,l3⟩:=lU.split rs.dom rx hd;refine ⟨line_big (by rw [<-Paired.length rx]; exact hz),fun t ht=>q _ _ (bw ht) ?_⟩;have k:Kp (P++O) H1 (P++O) (bX H1 t (.tup vs)):=.same (bw ht);refine ⟨t,a,ps,us,qs,rfl,fun h=>?_,by rw [aW,e1],hP,bw ht a _ ha,l1.kp k,l2.kp k,l3.kp k⟩;obtain ⟨o,q⟩:=LC.dom t h;rw [q] at ht; cases ht
 ·cases e
noncomputable def FR:DV->DV
 |.nwt p xs q=>.d (.tuple (p++.list xs::q))
 |x=>x
noncomputable def GD (f:DS->M DV) (δ:DS):M DV:=bd (f δ) fun x=>rt (FR x)
theorem Ga (h:PX X E e f):PX X E e (GD f):=PE.mono h fun σ H Q q=>kR (g:=fun _ x=>rt (FR x)) q fun O P δ x r v H1 rs LC s1 rx e q=>by
 cases e;refine q v H1 (aF.refl H1) ?_;cases x with
 |nwt p xs qq=>
  obtain ⟨t,a,ps,vs,qs,rfl,hz,ht,hn,ha,l1,l2,l3⟩:=rx;have sb:∀b,b∈P++O->b∈a::(P++O):=fun b hb=>KS _ hb;refine Rp.tup (fun h=>hz (sb t h)) ht (RpL.append (l1.kp (.sub sb)) (.cons (Rp.lst (fun h=>?_) ha (l2.kp (.sub sb))) (l3.kp (.sub sb))));obtain ⟨o,z⟩:=rs.dom a h;rw [hn] at z; cases z
 |d x=>exact rx
 |ob C fs=>exact rx
 |fz kvs=>exact rx
 |ex z=>exact rx
 |tpo p xs z=>exact rx
 |own xs=>exact rx
 |new xs=>exact rx
 |scr K ns=>exact rx
end
section
variable {X:Cx} {E:XK}
noncomputable def o5:List D->Option (List Int)
 |[]=>some []
 |.int i::r=>(o5 r).map (i::·)
 |_::_=>none
theorem rY:∀{xs:List D} {ns:List Int},o5 xs=some ns->xs=ns.map PyData.int
 |[],ns,h=>by cases h; rfl
 |x::r,ns,h=>by
  cases x with
  |int b=>
   unfold o5 at h;cases e:o5 r with
   |none=>rw [e] at h; cases h
   |some cs=>rw [e] at h; cases h; rw [rY e]; rfl
  |_=>cases h
theorem zL (ns:List Int):o5 (ns.map PyData.int)=some ns:=by
 induction ns with
 |nil=>rfl
 |cons b r ih=>rw [List.map_cons,o5,ih]; rfl
noncomputable def uq (xs:List DV):M DV:=match xs with
 |[x]=>bd (op (k7 x)) fun ys=>bd (op (o5 ys)) fun ns=>rt (.d (.int ns.sum))
 |_=>none
theorem iA {Z:List Addr} {H:Hp}:∀{ns:List Int} {vs:List V} {us:List Value},RpL Z H (ns.map PyData.int) vs->aX vs us->∃ps:List (Int×Tok),us=ps.map (fun p=>Value.int p.1 p.2)/\ps.map (·.1)=ns
 |[],_,_,.nil,.nil=>⟨[],rfl,rfl⟩
 |b::r,_,_,.cons p l,.cons q t=>by
  cases p;obtain ⟨tk,rfl⟩:=q;obtain ⟨ps,e1,e2⟩:=iA l t;exact ⟨(b,tk)::ps,by rw [e1]; rfl,by rw [List.map_cons,e2]⟩
theorem wu:bootBuiltins "sum" = some (.builtin "sum"):=by decide +kernel
theorem xc (hc:X.calm=true):d4 X E (.builtin "sum") uq:=fun pins s σ O P H₀ H xs vs us r Q I hd hs rx rv e q=>by
 unfold uq at e;split at e
 ·obtain ⟨ys,e1,e2⟩:=bQ e;obtain ⟨ns,e3,e4⟩:=bQ e2;cases e4;cases rx with
  |cons r1 rr=>
   cases rr;obtain ⟨a,ws,rfl,ha,l⟩:=r1.list e1;cases rv with
   |cons q1 q2=>
    cases q2;cases q1;have hys:=rY e3;subst hys;obtain ⟨B',ri,pl,hz⟩:=I.list (eN.of ha);obtain ⟨ps,hits,hns⟩:=iA l ri;have Np:=pl.isList;have hl:s.heap.IsList a (intItems ps.toArray):=by
     have:B'.toArray=intItems ps.toArray:=by rw [hits]; simp [intItems]
     rw [<-this]; exact Np
    refine sum_intListG (I.ok.hd hc) hl fun h' tk t' hk=>?_;have hsum:preSum (numAt ps.toArray) ps.toArray.size=ns.sum:=by
     rw [preSum_eq,List.take_of_length_le 0x4];rw [<-hns]
    rw [hsum];exact ⟨.int _,H,I.kept (t':=tk) fun b ob eb=>hk b ob eb,⟨_,rfl⟩,q _ H (aF.refl H) (.int _)⟩
 ·cases e
end
section
variable {X:Cx} {E:XK} {e:Expr} {fe:DS->M DV} {pos p:Pos}
end
section
variable {X:Cx} {E:XK} {o e e1 e2 c:Expr} {f fk fe f1 f2:DS->M DV} {gc:DS->M Bool} {F:DS->M Out} {pos:Pos}
end
end L3
namespace LW
open PySem PySem.Spec L2 L3
noncomputable def jK (m c:Int):Bool:=decide (3<=m)&&decide (m<=13)&&(decide (1<=c)&&decide (c<=4))
noncomputable def EL (C CB:Addr) (fr:DS->M (List DV)):DS->M DV:=aN (Jr C CB jK "most" "colours") fr
noncomputable def rQ (C:Addr):DS->M Out:=(bt (m6 (Az kP kP (eC (.int 1)) (e2 cb (af 1) (eC (.int 0))) (ft C "most" (af 0))) (Az kP gn (eC (.int 0)) (e2 cb (af 1) (eC (.int 1))) (ft C "colours" (af 0)))))
noncomputable def bY (C:Addr):List DV->M DV:=eE ["house", "tile"] (rQ C)
noncomputable def kZ:DS->M Out:=(bt (aN oi (aa (aK 1 [0] (k8 (aa (eC (.int 1)) (aa (aN cy (aa (af 0) ai)) ai))) (aq 0) bA (e2 kP (e2 cb (af 1) (e2 gSub (af 0) (eC (.int 1)))) (e2 cb (af 1) (af 0)))) ai)))
noncomputable def dw:List DV->M DV:=eE ["row"] (kZ)
noncomputable def sE (C:Addr):DS->M Out:=(bH (eQ (uL (fun δ=>bd (e2 mY (aN cy (aa (af 1) ai)) (eC (.int 12)) δ) bD) (gw (fun δ=>bd (Az kP kP (eC (.int 0)) (af 2) (eC (.int 2)) δ) bD))) (bt (eC (.bool false))) bK) (bH (eQ (gw (fun δ=>bd ((aN oi (aa (aK 1 [0,1] (iw (af 1)) (aq 0) bA (m6 (aN (ay 2 (bY C)) (aa (af 1) (aa (af 0) ai))) (e2 kP (k9 (af 2) (af 0)) (eC (.int 2))))) ai)) δ) bD)) (bt (eC (.bool false))) bK) (bt (aN (ay 1 (dw)) (aa (af 1) ai)))))
noncomputable def iO (C:Addr):List DV->M DV:=eE ["house", "hand", "jokers"] (sE C)
noncomputable def j8 (K:Lb):DS->M Out:=(bH (eQ (fun δ=>bd (e2 gn (af 1) (aN (vz K) (aa (af 0) ai)) δ) bD) (bt (e2 (BW K) (af 0) (af 1))) bK) (bt (eC (.int 0))))
noncomputable def aH (K:Lb):List DV->M DV:=eE ["script", "k"] (j8 K)
noncomputable def qA:DS->M Out:=(bH (aR 3 (bV (aa (eC (.int 48271)) (aa (eC (.int 69621)) (aa (eC (.int 16807)) (aa (eC (.int 39373)) (aa (eC (.int 30269)) (aa (eC (.int 40014)) (aa (eC (.int 40692)) (aa (eC (.int 50021)) (aa (eC (.int 61687)) (aa (eC (.int 71993)) (aa (eC (.int 83869)) (aa (eC (.int 95561)) (aa (eC (.int 30307)) ai))))))))))))))) (bH (aR 4 (e2 br (e2 br (e2 eT (e2 br (e2 iZ (af 0) (eC (.int 2147483647))) (eC (.int 12345))) (e2 cb (af 3) (e2 iZ (af 1) (eC (.int 13))))) (e2 eT (eC (.int 977)) (af 1))) (e2 eT (eC (.int 7919)) (e2 uJ (af 1) (eC (.int 13)))))) (bH (aR 4 (e2 iZ (af 4) (eC (.int 1000000007)))) (bt (e2 iZ (e2 uJ (e2 iZ (e2 br (e2 eT (af 4) (af 4)) (e2 eT (eC (.int 48271)) (af 1))) (eC (.int 1000000007))) (eC (.int 7))) (af 2))))))
noncomputable def aA:List DV->M DV:=eE ["cell", "k", "many", "some", "stir"] (qA)
noncomputable def vY:DS->M Out:=(bt (m6 (Gw "bool" (af 0)) (e2 (gx false) (af 0) (af 1))))
noncomputable def iq:List DV->M DV:=eE ["found", "due"] (vY)
noncomputable def jy (K:Lb):DS->M Out:=(bH (aR 1 (aN (ay 2 (aH K)) (aa (af 0) (aa (eC (.int 0)) ai)))) (bt (aZ (aa (e2 br (eC (.int 3)) (aN (ay 3 (aA)) (aa (af 1) (aa (eC (.int 1)) (aa (e2 cb (bV (aa (eC (.int 4)) (aa (eC (.int 4)) (aa (eC (.int 4)) (aa (eC (.int 11)) ai))))) (aN (ay 3 (aA)) (aa (af 1) (aa (eC (.int 2)) (aa (eC (.int 4)) ai))))) ai))))) (aa (e2 br (eC (.int 1)) (aN (ay 3 (aA)) (aa (af 1) (aa (eC (.int 3)) (aa (eC (.int 4)) ai))))) ai)))))
noncomputable def du (K:Lb):List DV->M DV:=eE ["script", "cell"] (jy K)
noncomputable def jX:DS->M Out:=(bH (aR 2 (bV ai)) (bH (b9 (iw (af 0)) (aq 3) (eQ (jJ (fun δ=>bd (e2 gn (k9 (af 2) (af 3)) (eC (.int 2)) δ) bD) (fun δ=>bd (e2 gn (aN cy (aa (af 2) ai)) (af 1) δ) bD)) (nE 2 (af 3)) bK)) (bt (aN lD (aa (af 2) ai)))))
noncomputable def cA:List DV->M DV:=eE ["tiles", "limit", "found", "tile"] (jX)
noncomputable def j9 (K:Lb):DS->M Out:=(bH (aR 5 (bV ai)) (bH (b9 (lx (aa (eC (.int 3)) ai)) (aq 6) (bH (aR 7 (aN (ay 2 (aH K)) (aa (af 0) (aa (e2 br (af 1) (af 6)) ai)))) (bH (Dm (nq 2 (dE (aq 8) (dE (aq 9) n4))) (aZ (aa (e2 br (eC (.int 1)) (aN (ay 3 (aA)) (aa (af 7) (aa (eC (.int 1)) (aa (af 2) ai))))) (aa (aN (ay 3 (aA)) (aa (af 7) (aa (eC (.int 2)) (aa (af 3) ai)))) ai)))) (bH (aR 10 (e2 br (eC (.int 2)) (aN (ay 3 (aA)) (aa (af 7) (aa (eC (.int 3)) (aa (eC (.int 4)) ai)))))) (bH (eQ (fun δ=>bd (e2 (gx false) (aN (ay 3 (aA)) (aa (af 7) (aa (eC (.int 4)) (aa (eC (.int 2)) ai)))) (eC (.int 0)) δ) bD) (aR 5 (e2 br (af 5) (aK 1 [9] (k8 (aa (af 8) (aa (e2 br (aN Al (aa (af 2) (aa (e2 gSub (e2 br (af 8) (af 10)) (eC (.int 1))) ai))) (eC (.int 1))) ai))) (aq 0) bA (aZ (aa (af 0) (aa (af 1) ai)))))) (aR 5 (e2 br (af 5) (aK 1 [8,7] (lx (aa (af 3) ai)) (aq 0) (fun δ=>bd (e2 mY (aN (ay 3 (aA)) (aa (af 2) (aa (e2 br (eC (.int 10)) (af 0)) (aa (eC (.int 4)) ai)))) (eC (.int 0)) δ) bD) (aZ (aa (af 1) (aa (af 0) ai))))))) (eQ (fun δ=>bd (e2 (gx false) (aN (ay 3 (aA)) (aa (af 7) (aa (eC (.int 5)) (aa (eC (.int 3)) ai)))) (eC (.int 0)) δ) bD) (nE 5 (aZ (aa (e2 br (eC (.int 1)) (aN (ay 3 (aA)) (aa (af 7) (aa (eC (.int 6)) (aa (af 2) ai))))) (aa (aN (ay 3 (aA)) (aa (af 7) (aa (eC (.int 7)) (aa (af 3) ai)))) ai)))) bK)))))) (bH (eQ (fun δ=>bd (e2 (gx false) (aN cy (aa (af 5) ai)) (eC (.int 0)) δ) bD) (aR 5 (bV (aa (aZ (aa (eC (.int 1)) (aa (eC (.int 0)) ai))) ai))) bK) (bH (eQ (fun δ=>bd (e2 (gx false) (e2 iZ (aN (ay 2 (aH K)) (aa (af 0) (aa (e2 br (af 1) (eC (.int 3))) ai))) (eC (.int 9))) (eC (.int 7)) δ) bD) (bt (bV ai)) bK) (fun δ=>(bt (aN (ay 2 (cA)) (aa (af 5) (aa (e2 br (eC (.int 1)) (e2 iZ (aN (ay 2 (aH K)) (aa (af 0) (aa (e2 br (af 1) (eC (.int 3))) ai))) (af 4))) ai)))) (frz 5 δ))))))
noncomputable def dQ (K:Lb):List DV->M DV:=eE ["script", "start", "most", "colours", "limit", "tiles", "k", "cell", "number", "colour", "size"] (j9 K)
theorem Bz (a b:Bool):(if a=true then rt (DV.d (.bool b)) else rt (DV.d (.bool false)))=rt (.d (.bool (a&&b))):=by cases a <;> rfl
theorem xX (a b:Bool):(if a=true then rt b else rt false)=(rt (a&&b):M Bool):=by cases a <;> rfl
theorem Ci (a b:Bool):(if a=true then rt true else rt b)=(rt (a||b):M Bool):=by cases a <;> rfl
theorem BE (a b:Bool):(if a=true then rt (DV.d (.bool true)) else rt (DV.d (.bool b)))=rt (.d (.bool (a||b))):=by cases a <;> rfl
local macro_rules|`(tactic| walk_at "py")=>`(tactic| simp only [eE,mS,bH,aR,bt,eQ,bK,Dm,nN,Hw,af,eC,e2,aa,ai,aZ,bV,aN,ay,L3.args_nil,wQ,oU,qm,qu,mW,sR,m5,Option.map_some,aE,Bs,sS,a8,wz,xm,wH,wU,s9,uC,Bu,ug,tj,wG,wX,tw,qt,pP,yB,gw,jJ,uL,m6,JG,Hn,Az,ft,List.map_cons,List.map_nil,List.length_cons,List.length_nil,List.replicate,List.cons_append,List.nil_append,List.append_nil,List.getElem?_cons_zero,List.getElem?_cons_succ,List.set_cons_zero,List.set_cons_succ,Option.join_some,Nat.reduceAdd,Nat.reduceSub,Nat.reduceLeDiff,Nat.reduceEqDiff,if_true,if_false,ite_true,ite_false,Bool.not_true,Bool.not_false,Bool.false_eq_true,Nat.zero_add,zh,oH,zj,oN,oQ,r9,sJ,ti,cY,qG,dq,t6,uc,gq,kH,d9,iN,Bz,xX,Ci,BE])
noncomputable def bC (ns:List Int) (k:Int):Int:=if k<(ns.length:Int) then (atI ns k).getD 0 else 0
variable {i:Int}
theorem AN {α:Type} {xs:List α} (h0:0<=i) (h1:i<(xs.length:Int)):∃x,atI xs i=some x:=by
 unfold atI Ej;rw [if_pos h0,if_pos h1];exact ⟨xs[i.toNat]'0x1,0x4⟩
theorem AB (K:Lb) (ns:List Int):vz K [.scr K ns]=rt (.d (.int ns.length)):=by
 unfold vz;exact if_pos rfl
theorem Eb (K:Lb) (ns:List Int) (i:Int):BW K (.scr K ns) (.d (.int i))=bd (op (atI ns i)) fun n=>rt (.d (.int n)):=by
 unfold BW;exact if_pos rfl
theorem B4 (K:Lb) (ns:List Int) (k:Int) (h:0<=k):aH K [.scr K ns,.d (.int k)]=rt (.d (.int (bC ns k))):=by
 unfold aH j8 bC;walk_at "py";rw [AB];walk_at "py";by_cases hk:k<(ns.length:Int)
 ·obtain ⟨x,hx⟩:=AN h hk;rw [Ls hk,Eb,hx,if_pos hk];walk_at "py";rfl
 ·rw [Lr hk,if_neg hk];walk_at "py"
theorem HN (h0:0<=i) (h1:i<13):∃x:Int,atI ([.int 48271,.int 69621,.int 16807,.int 39373,.int 30269,.int 40014,.int 40692,.int 50021,.int 61687,.int 71993,.int 83869,.int 95561,.int 30307]:List D) i=some (.int x)/\0<x/\x<100000:=by
 obtain ⟨n,rfl⟩:=Int.eq_ofNat_of_zero_le h0;have hn:n<13:=by lia
 match n,hn with
 |0,_|1,_|2,_|3,_|4,_|5,_|6,_|7,_|8,_|9,_|10,_|11,_|12,_=>exact ⟨_,rfl,0x3,0x3⟩
variable {xs:List D} {x:D}
theorem yj (h:atI xs i=some x):cb (.own xs) (.d (.int i))=rt (.d x):=by
 unfold cb;simp only [h,a8,aE]
theorem oS (h:atI xs i=some x):cb (.new xs) (.d (.int i))=rt (.d x):=by
 unfold cb;simp only [h,a8,aE]
theorem a5 (h:atI xs i=some x):cb (.d (.tuple xs)) (.d (.int i))=rt (.d x):=by
 unfold cb;simp only [h,a8,aE]
theorem uv (h:atI xs i=some x):cb (.d (.list xs)) (.d (.int i))=rt (.d x):=by
 unfold cb;simp only [h,a8,aE]
variable {j:Int}
theorem uy (h:0<=i) (h':i<18446744073709551616):um i j=true:=by
 unfold um;have a:decide (-(2 ^ 64)<i)=true:=Ls 0x1;have b:decide (i<2 ^ 64)=true:=Ls 0x1;rw [a,b]; rfl
theorem GV (h:0<=j) (h':j<18446744073709551616):um i j=true:=by
 unfold um;have a:decide (-(2 ^ 64)<j)=true:=Ls 0x1;have b:decide (j<2 ^ 64)=true:=Ls 0x1;rw [a,b,Bool.and_true,Bool.or_true]
theorem u5 (cell k many:Int) (hm:0<many):∃r,aA [.d (.int cell),.d (.int k),.d (.int many)]=rt (.d (.int r))/\0<=r/\r<many:=by
 unfold aA qA;walk_at "py";rw [dJ 0x3,dJ 0x3,ko 0x3 0x3];obtain ⟨x,hx,x0,x1⟩:=HN (Int.emod_nonneg k (by decide:(13:Int)≠0)) (Int.emod_lt_of_pos k (by decide:(0:Int)<13));walk_at "py";rw [yj hx];walk_at "py";rw [eJ (GV 0x1 0x1),eJ (uy 0x3 0x3),eJ (uy 0x3 0x3)];walk_at "py";rw [dJ 0x3];walk_at "py";generalize hs:((cell % 2147483647+12345)*x+977*k+7919*(k / 13)) % 1000000007=st;have s0:0<=st:=by rw [<-hs]; exact Int.emod_nonneg _ 0x3
 have s1:st<1000000007:=by rw [<-hs]; exact Int.emod_lt_of_pos _ 0x3
 rw [eJ (uy s0 0x1),eJ (uy 0x3 0x3)];walk_at "py";rw [dJ 0x3];walk_at "py";rw [ko 0x3 0x3];walk_at "py";rw [dJ hm];walk_at "py";exact ⟨_,rfl,Int.emod_nonneg _ 0x1,Int.emod_lt_of_pos _ hm⟩
local macro_rules|`(tactic| walk_at "py")=>`(tactic| simp only [eE,mS,bH,aR,bt,eQ,bK,Dm,nN,Hw,af,eC,e2,aa,ai,aZ,bV,aN,ay,L3.args_nil,wQ,oU,qm,qu,mW,sR,m5,Option.map_some,aE,Bs,sS,a8,wz,xm,wH,wU,s9,uC,Bu,ug,tj,wG,wX,tw,qt,pP,yB,gw,jJ,uL,m6,JG,Hn,Az,ft,List.map_cons,List.map_nil,List.length_cons,List.length_nil,List.replicate,List.cons_append,List.nil_append,List.append_nil,List.getElem?_cons_zero,List.getElem?_cons_succ,List.set_cons_zero,List.set_cons_succ,Option.join_some,Nat.reduceAdd,Nat.reduceSub,Nat.reduceLeDiff,Nat.reduceEqDiff,if_true,if_false,ite_true,ite_false,Bool.not_true,Bool.not_false,Bool.false_eq_true,Nat.zero_add,zh,oH,zj,oN,oQ,r9,sJ,ti,cY,qG,dq,t6,uc,gq,kH,d9,iN,Bz,xX,Ci,BE])
theorem EN (K:Lb) (ns:List Int):∃m c,du K [.scr K ns]=rt (.d (.tuple [.int m,.int c]))/\3<=m/\m<=13/\1<=c/\c<=4:=by
 unfold du jy;walk_at "py";rw [B4 K ns 0 0x3];walk_at "py";obtain ⟨r1,h1,a1,b1⟩:=u5 (bC ns 0) 2 4 0x3;rw [h1];walk_at "py";have hx:∃x:Int,atI ([.int 4,.int 4,.int 4,.int 11]:List D) r1=some (.int x)/\4<=x/\x<=11:=by
  obtain ⟨n,rfl⟩:=Int.eq_ofNat_of_zero_le a1;have hn:n<4:=by lia
  match n,hn with
  |0,_|1,_|2,_|3,_=>exact ⟨_,rfl,0x3,0x3⟩
 obtain ⟨x,hx,x4,NY⟩:=hx;rw [oS hx];walk_at "py";obtain ⟨r2,h2,a2,b2⟩:=u5 (bC ns 0) 1 x 0x1;obtain ⟨r3,h3,a3,b3⟩:=u5 (bC ns 0) 3 4 0x3;rw [h2,h3];walk_at "py";exact ⟨_,_,rfl,0x1,0x1,0x1,0x1⟩
noncomputable def pr (p:Int×Int):D:=.tuple [.int p.1,.int p.2]
theorem lq (p q:Int×Int):PyData.eqv (pr p) (pr q)=decide (p=q):=by
 obtain ⟨a,b⟩:=p;obtain ⟨c,d⟩:=q;show PyData.eqvAll ([a,b].map PyData.int) ([c,d].map PyData.int)=_;rw [qe];simp
theorem ye:∀ps qs:List (Int×Int),PyData.eqvAll (ps.map pr) (qs.map pr)=decide (ps=qs)
 |[],[]=>rfl
 |[],_::_=>rfl
 |_::_,[]=>rfl
 |p::ps,q::qs=>by
  rw [List.map_cons,List.map_cons,PyData.eqvAll,lq,ye ps qs];by_cases h:p=q
  ·subst h; simp
  ·simp [h]
theorem Gx {p q:Int×Int} (h:pr p=pr q):p=q:=by
 have:=lq p q;rw [h,lq] at this;simpa using this.symm
theorem rL:∀ps:List (Int×Int),PyData.depthAll (ps.map pr)<=1
 |[]=>by decide
 |p::ps=>by
  rw [List.map_cons,PyData.depthAll];have h1:(pr p).depth=1:=rfl;have h2:=rL ps;lia
noncomputable def le (p q:Int×Int):Bool:=!(ll [q.1,q.2] [p.1,p.2])
theorem Ip (p q:Int×Int):cD false (pr p) (pr q)=some (le p q):=by
 obtain ⟨a,b⟩:=p;obtain ⟨c,d⟩:=q;show cL false [.int a,.int b] [.int c,.int d]=some (!(HT.lexLt [c,d] [a,b]));unfold cL;have e1:PyData.eqv (.int a) (.int c)=(a==c):=rfl;have e2:PyData.eqv (.int b) (.int d)=(b==d):=rfl;rw [e1,HT.lexLt_cons,HT.lexLt_cons];by_cases h:a=c
 ·subst h;rw [if_pos (beq_self_eq_true a),if_pos rfl];unfold cL;rw [e2];by_cases h':b=d
  ·subst h';rw [if_pos (beq_self_eq_true b),if_pos rfl];rfl
  ·rw [if_neg (by simpa using h'),if_neg (Ne.symm h')];show some (decide (b<=d))=_;congr 1;by_cases hb:b<=d
   ·simp [hb]
   ·simp [hb]; lia
 ·rw [if_neg (by simpa using h),if_neg (Ne.symm h)];show some (decide (a<=c))=_;congr 1;by_cases hb:a<=c
  ·simp [hb]
  ·simp [hb]; lia
theorem Ek (p q:Int×Int):kP (.d (pr p)) (.d (pr q))=rt (.d (.bool (le p q))):=by
 have h:kP (.d (pr p)) (.d (pr q))=gC false (.d (pr p)) (.d (pr q)):=rfl;rw [h];show (if (pr p).depth<=60 then bd (op (cD false (pr p) (pr q))) (fun k=>rt (DV.d (.bool k))) else none)=_;rw [if_pos (show (pr p).depth<=60 from (by decide:1<=60)),Ip];rfl
theorem wb {fe:DS->M DV} {δ:DS} {g:D->D}:∀{xs:List D},(∀d∈xs,fe (δ.set 0 (some (.d d)))=rt (.d (g d)))->cB (aq 0) bA fe δ xs=some (xs.map g)
 |[],_=>rfl
 |d::r,h=>by
  have h1:=h d KU;have ih:=wb (xs:=r) fun e he=>h e (KS _ he);unfold cB;simp only [aq,bA,rt];rw [h1,ih];rfl
theorem l6 {bs:List Bool}:oi [.new (bs.map PyData.bool)]=rt (.d (.bool (bs.all id))):=by
 unfold oi;simp only [oQ,a8,aE,Ak]
noncomputable def bh (m c:Int) (p:Int×Int):Bool:=decide (1<=p.1)&&decide (p.1<=m)&&(decide (0<=p.2)&&decide (p.2<c))
noncomputable def hs (C:Addr) (m c:Int):DV:=.ob C [("most",.int m),("colours",.int c)]
theorem i8 (C:Addr) (m c:Int):C3 C "most" (hs C m c)=rt (.d (.int m)):=by
 show (if C=C then bd (op (List.lookup ("most" : Str) [(("most" : Str),PyData.int m),("colours",.int c)])) fun d=>rt (DV.d d) else none)=_;rw [if_pos rfl,List.lookup_cons];simp only [beq_self_eq_true];rfl
theorem gm (C:Addr) (m c:Int):C3 C "colours" (hs C m c)=rt (.d (.int c)):=by
 show (if C=C then bd (op (List.lookup ("colours" : Str) [(("most" : Str),PyData.int m),("colours",.int c)])) fun d=>rt (DV.d d) else none)=_;rw [if_pos rfl,List.lookup_cons];have h:(("colours" : Str) == "most")=false:=by decide +kernel
 rw [h];simp only [List.lookup_cons,beq_self_eq_true];rfl
theorem DF (C:Addr) (m c:Int) (r:List DV):args (hs C m c::r)=(args r).map (hs C m c::·):=oU _ _ _
theorem AE (C:Addr) (m c:Int) (p:Int×Int):bY C [hs C m c,.d (pr p)]=rt (.d (.bool (bh m c p))):=by
 unfold bY rQ;walk_at "py";have g0:cb (.d (pr p)) (.d (.int 0))=rt (.d (.int p.1)):=a5 rfl;have g1:cb (.d (pr p)) (.d (.int 1))=rt (.d (.int p.2)):=a5 rfl;rw [g0,g1,i8,gm];walk_at "py";rfl
noncomputable def iu (ps:List (Int×Int)):Bool:=(List.range (ps.length-1)).all fun k=>le (ps.getD k (0,0)) (ps.getD (k+1) (0,0))
variable {k:Nat}
theorem xH {α:Type} {xs:List α} (h:k<xs.length) (d:α):atI xs (k:Int)=some (xs.getD k d):=by
 unfold atI Ej;rw [if_pos 0x1,if_pos 0x1];simp [h]
variable {ps:List (Int×Int)}
theorem CO (h:k<ps.length):atI (ps.map pr) (k:Int)=some (pr (ps.getD k (0,0))):=by
 rw [tQ,xH h (0,0)];rfl
variable {d:D}
theorem BJ {lo:Int} {n:Nat} (h:d∈cH lo n):∃i:Nat,i<n/\d=.int (lo+(i:Int)):=by
 unfold cH at h;obtain ⟨i,hi,e⟩:=Lf.mp h;exact ⟨i,Lh.mp hi,e.symm⟩
theorem xj (ps:List (Int×Int)):cB (aq 0) bA (e2 kP (e2 cb (af 1) (e2 gSub (af 0) (eC (.int 1)))) (e2 cb (af 1) (af 0))) (cj 1 [0] [some (.d (.list (ps.map pr)))]) (cH 1 ((ps.length:Int)-1).toNat)=some (((List.range (ps.length-1)).map fun k=>le (ps.getD k (0,0)) (ps.getD (k+1) (0,0))).map PyData.bool):=by
 rw [wb (g:=fun d=>match d with|.int i=>.bool (le (ps.getD (i-1).toNat (0,0)) (ps.getD i.toNat (0,0)))|_=>.none)]
 ·have hn:((ps.length:Int)-1).toNat=ps.length-1:=by lia
  rw [hn];unfold cH;rw [List.map_map,List.map_map];congr 1;refine List.map_congr_left fun k hk=>?_;show PyData.bool (le (ps.getD (1+(k:Int)-1).toNat (0,0)) (ps.getD (1+(k:Int)).toNat (0,0)))=_;have e1:(1+(k:Int)-1).toNat=k:=by lia
  have e2:(1+(k:Int)).toNat=k+1:=by lia
  rw [e1,e2];rfl
 ·intro d hd;obtain ⟨i,hi,rfl⟩:=BJ hd;unfold cj;walk_at "py";have hi2:i+1<ps.length:=by lia
  have e1:(1+(i:Int)-1)=(i:Int):=by lia
  have e2:(1+(i:Int))=((i+1:Nat):Int):=by lia
  rw [e1,e2,uv (CO 0x1),uv (CO hi2)];walk_at "py";rw [Ek];have e3:((i+1:Nat):Int)-1=(i:Int):=by lia
  simp only [e3,Int.toNat_natCast]
theorem f6 (ps:List (Int×Int)):cy [.d (.list (ps.map pr))]=rt (.d (.int (ps.length:Int))):=by
 show rt (DV.d (.int ((ps.map pr).length:Int)))=_;rw [List.length_map]
variable {δ:DS}
theorem gN {fr:DS->M (List DV)} (h:fr δ=rt [.d (.int i),.d (.int j)]) (hi:-1000<=i) (Og:i<=1000) (hj:-1000<=j) (NV:j<=1000):k8 fr δ=rt (cH i (j-i).toNat):=by
 unfold k8;rw [h];exact if_pos ⟨0x1,0x1,0x1,0x1⟩
theorem fA {fr:DS->M (List DV)} (h:fr δ=rt [.d (.int j)]) (hj:-1000<=j) (NV:j<=1000):lx fr δ=rt (cH 0 j.toNat):=by
 unfold lx;rw [h];exact if_pos ⟨0x1,0x1⟩
theorem bb {js:List Nat} {fi:DS->M (List D)} {sf:D->DS->Option DS} {gc:DS->M Bool} {fe:DS->M DV} {ys:List D} (h1:fi δ=rt xs) (h2:xs.length<=1000000) (h3:cB sf gc fe (cj k js δ) xs=some ys):aK k js fi sf gc fe δ=rt (.new ys):=by
 unfold aK;rw [h1,aE,if_pos h2,h3];rfl
theorem EJ (ps:List (Int×Int)) (hl:ps.length<=1000):dw [.d (.list (ps.map pr))]=rt (.d (.bool (iu ps))):=by
 unfold dw kZ;walk_at "py";rw [bb (gN (i:=1) (j:=(ps.length:Int)) (by walk_at "py"; rw [f6]; walk_at "py") 0x1 0x1 0x1 0x1) (by rw [dt]; lia) (xj ps)];walk_at "py";rw [l6];walk_at "py";unfold iu;rw [List.all_map];rfl
local macro_rules|`(tactic| walk_at "py")=>`(tactic| simp only [eE,mS,bH,aR,bt,eQ,bK,Dm,nN,Hw,af,eC,e2,aa,ai,aZ,bV,aN,ay,L3.args_nil,wQ,oU,qm,qu,mW,sR,m5,Option.map_some,aE,Bs,sS,a8,wz,xm,wH,wU,s9,uC,Bu,ug,tj,wG,wX,tw,qt,pP,yB,gw,jJ,uL,m6,JG,Hn,Az,ft,List.map_cons,List.map_nil,List.length_cons,List.length_nil,List.replicate,List.cons_append,List.nil_append,List.append_nil,List.getElem?_cons_zero,List.getElem?_cons_succ,List.set_cons_zero,List.set_cons_succ,Option.join_some,Nat.reduceAdd,Nat.reduceSub,Nat.reduceLeDiff,Nat.reduceEqDiff,if_true,if_false,ite_true,ite_false,Bool.not_true,Bool.not_false,Bool.false_eq_true,Nat.zero_add,zh,oH,zj,oN,oQ,r9,sJ,ti,cY,qG,dq,t6,uc,gq,kH,d9,iN,Bz,xX,Ci,BE])
theorem cK {α:Type} {f:α->D} {fe:DS->M DV} {δ:DS} {g:α->D}:∀{as:List α},(∀a∈as,fe (δ.set 0 (some (.d (f a))))=rt (.d (g a)))->cB (aq 0) bA fe δ (as.map f)=some (as.map g)
 |[],_=>rfl
 |a::r,h=>by
  have h1:=h a KU;have ih:=cK (as:=r) fun e he=>h e (KS _ he);rw [List.map_cons,List.map_cons];unfold cB;simp only [aq,bA,rt];rw [h1,ih];rfl
noncomputable def gr (ps:List (Int×Int)) (p:Int×Int):Int:=(((ps.map pr).countP fun z=>PyData.eqv z (pr p):Nat):Int)
theorem pU (ps:List (Int×Int)) (p:Int×Int):tW (.d (.list (ps.map pr))) (.d (pr p))=rt (.d (.int (gr ps p))):=by
 unfold tW gr;exact if_pos (show (pr p).depth<=60 from (by decide:1<=60))
theorem CV (ps:List (Int×Int)) (p:Int×Int):tW (.own (ps.map pr)) (.d (pr p))=rt (.d (.int (gr ps p))):=by
 unfold tW gr;exact if_pos (show (pr p).depth<=60 from (by decide:1<=60))
noncomputable def tok (m c:Int) (ps:List (Int×Int)) (p:Int×Int):Bool:=bh m c p&&decide (gr ps p<=2)
theorem zG (C:Addr) (m c j:Int) (ps:List (Int×Int)) :
  cB (aq 0) bA (m6 (aN (ay 2 (bY C)) (aa (af 1) (aa (af 0) ai))) (e2 kP (k9 (af 2) (af 0)) (eC (.int 2)))) (cj 1 [0,1] [some (hs C m c),some (.d (.list (ps.map pr))),some (.d (.int j))]) (ps.map pr)=some ((ps.map (tok m c ps)).map PyData.bool):=by
 rw [List.map_map];refine cK fun p hp=>?_;unfold cj;walk_at "py";unfold k9;walk_at "py";simp only [DF];walk_at "py";rw [AE,pU];walk_at "py";rfl
noncomputable def jok (j:Int):Bool:=decide (0<=j)&&decide (j<=2)
noncomputable def nh (m c:Int) (ps:List (Int×Int)) (j:Int):Bool:=decide (ps.length<=12)&&jok j&&(ps.map (tok m c ps)).all id&&iu ps
theorem f9 {f:DS->M DV} (h:f δ=rt (.d (.list xs))):iw f δ=rt xs:=by
 unfold iw;rw [h];rfl
theorem C0 (y z:DV) (x:D) (fo:List DV->M DV) (b:Bool) (h:fo [.d x]=rt (.d (.bool b))):bd (bd (rt (Out.nx [some y,some (.d x),some z])) (Js (bt (aN (ay 1 fo) (aa (af 1) ai))))) zY=rt (.d (.bool b)):=by
 walk_at "py";rw [h];walk_at "py"
theorem G2 (C:Addr) (m c j:Int) (ps:List (Int×Int)) (hl:ps.length<=1000):iO C [hs C m c,.d (.list (ps.map pr)),.d (.int j)]=rt (.d (.bool (nh m c ps j))):=by
 have ho:=EJ ps hl;unfold iO sE;generalize dw=fo at ho ⊢;walk_at "py";rw [f6];walk_at "py";have ej:(decide (0<=j)&&decide (j<=2))=jok j:=rfl;have el:(decide ((12:Int)<(ps.length:Int)))=!decide (ps.length<=12):=by
  by_cases h:ps.length<=12
  ·rw [Ls h,Lr 0x1]; rfl
  ·rw [Lr h,Ls 0x1]; rfl
 rw [ej,el];unfold nh;cases NZ:decide (ps.length<=12) with
 |false=>
  simp only [Bool.not_false,Bool.true_or,if_true,Bool.false_and];walk_at "py"
 |true=>
  cases hj:jok j with
  |false=>
   simp only [Bool.not_true,Bool.not_false,Bool.false_or,if_true,Bool.and_false,Bool.false_and];walk_at "py"
  |true=>
   simp only [Bool.not_true,Bool.false_or,Bool.false_eq_true,if_false,Bool.true_and];walk_at "py";rw [bb (f9 rfl) (by rw [List.length_map]; lia) (zG C m c j ps)];walk_at "py";rw [l6];walk_at "py";cases ha:(ps.map (tok m c ps)).all id with
   |false=>
    simp only [Bool.not_false,if_true,Bool.false_and];walk_at "py"
   |true=>
    simp only [Bool.not_true,Bool.false_eq_true,if_false,Bool.true_and];exact C0 _ _ _ _ _ ho
theorem Bf:∀{l:List D},(∀x∈l,∃p,pr p=x)->∃qs:List (Int×Int),l=qs.map pr
 |[],_=>⟨[],rfl⟩
 |x::r,h=>by
  obtain ⟨p,hp⟩:=h x KU;obtain ⟨qs,hq⟩:=Bf (l:=r) fun y hy=>h y (KS _ hy);exact ⟨p::qs,by rw [List.map_cons,hp,hq]⟩
theorem yE (ps:List (Int×Int)):∃qs:List (Int×Int),Ax (ps.map pr)=qs.map pr/\qs.length=ps.length:=by
 obtain ⟨qs,hq⟩:=Bf (l:=Ax (ps.map pr)) fun x hx=>by
  obtain ⟨p,_,e⟩:=Lf.mp ((i9 _).mem_iff.mp hx);exact ⟨p,e⟩
 refine ⟨qs,hq,?_⟩;have:=(i9 (ps.map pr)).length_eq;rw [hq,List.length_map,List.length_map] at this;exact this
theorem Gj (ps:List (Int×Int)):(ps.map pr).all (fun y=>(kT y).isSome&&decide ((kO y).length≠0))=true:=by
 rw [List.all_map,List.all_eq_true];intro p _;rfl
theorem xW {x:DV} (hx:k7 x=some (ps.map pr)) (hl:ps.length<64):lD [x]=rt (.new (Ax (ps.map pr))):=by
 unfold lD;simp only [hx,a8,aE];exact if_pos ⟨by rw [List.length_map]; exact hl,Gj ps⟩
theorem ya (h:L3.Ord (ps.map pr)):iu ps=true:=by
 unfold L3.Ord at h;rw [List.pairwise_map,List.pairwise_iff_getElem] at h;unfold iu;rw [List.all_eq_true];intro k hk;have hk:=Lh.mp hk;have:=h k (k+1) 0x1 0x1 0x1;unfold le;have e1:ps.getD k (0,0)=ps[k]'0x1:=by simp [show k<ps.length by lia]
 have e2:ps.getD (k+1) (0,0)=ps[k+1]'0x1:=by simp [show k+1<ps.length by lia]
 rw [e1,e2];have this':ll [(ps[k+1]'0x1).1,(ps[k+1]'0x1).2] [(ps[k]'0x1).1,(ps[k]'0x1).2]=false:=this;rw [this'];rfl
theorem t8 (neg:Bool) (ps qs:List (Int×Int)) (x:DV) (hx:mR x=some (.list (qs.map pr))):gx neg (.d (.list (ps.map pr))) x=rt (.d (.bool (if neg=true then !decide (ps=qs) else decide (ps=qs)))):=by
 unfold gx;rw [hx];simp only [r9];have hd:(PyData.list (ps.map pr)).depth<=60:=by
  have:=rL ps;unfold PyData.depth;lia
 rw [if_pos hd];have he:PyData.eqv (.list (ps.map pr)) (.list (qs.map pr))=decide (ps=qs):=ye ps qs;rw [he]
section
variable {F G:DS->M Out} {f fa fb fc:DS->M DV} {fr:DS->M (List DV)} {gc:DS->M Bool} {g:DV->DV->M DV} {δ δ':DS} {x y z:DV} {k:Bool}
theorem cg (h:F δ=rt (.nx δ')):bH F G δ=G δ':=by unfold bH; rw [h]; rfl
theorem ro (h:F δ=rt (.rt x)):bH F G δ=rt (.rt x):=by unfold bH; rw [h]; rfl
theorem jz (h:gc δ=rt k):eQ gc F G δ=if k=true then F δ else G δ:=by unfold eQ; rw [h]; rfl
theorem jk {i:Nat} (h:f δ=rt x) (ha:vy x=some y):aR i f δ=rt (.nx (δ.set i (some y))):=by unfold aR; rw [h,aE,ha]; rfl
theorem bG (h:f δ=rt x):bt f δ=rt (.rt x):=by unfold bt; rw [h]; rfl
theorem au (h1:fa δ=rt x) (h2:fb δ=rt y):e2 g fa fb δ=g x y:=by unfold e2; rw [h1,aE,h2]; rfl
theorem bj (h1:fa δ=rt x):aa fa ai δ=rt [x]:=by unfold aa; rw [h1]; rfl
theorem bW (h1:fa δ=rt x) (h2:fb δ=rt y):aa fa (aa fb ai) δ=rt [x,y]:=by
 have:=bj h2;unfold aa at this ⊢;rw [h1,aE,this]; rfl
theorem fW (h1:fa δ=rt x) (h2:fb δ=rt y) (h3:fc δ=rt z):aa fa (aa fb (aa fc ai)) δ=rt [x,y,z]:=by
 have:=bW h2 h3;unfold aa at this ⊢;rw [h1,aE,this]; rfl
theorem cm {G:List DV->M DV} {xs:List DV} (h:fr δ=rt xs):aN G fr δ=G xs:=by unfold aN; rw [h]; rfl
theorem aY {n:Nat} {fm:List DV->M DV} {xs ys:List DV} (h:fr δ=rt xs) (ha:args xs=some ys) (hn:ys.length=n) (hm:fm ys=rt x):aN (ay n fm) fr δ=rt x:=by
 rw [cm h];unfold ay;rw [ha,a8,aE,if_pos hn,hm]; rfl
theorem fR {a b:D} (h1:fa δ=rt (.d a)) (h2:fb δ=rt (.d b)):aZ (aa fa (aa fb ai)) δ=rt (.d (.tuple [a,b])):=by
 unfold aZ;rw [bW h1 h2];rfl
theorem aU {b:Bool} (h:f δ=rt (.d (.bool b))):(fun δ=>bd (f δ) bD) δ=rt b:=by
 show bd (f δ) bD=_;rw [h]; rfl
theorem Gm {ga gb:DS->M Bool} {a b:Bool} (h1:ga δ=rt a) (h2:gb δ=rt b):jJ ga gb δ=rt (a&&b):=by
 unfold jJ;rw [h1,aE,h2,xX]
theorem tF {ga:DS->M Bool} {a:Bool} (h1:ga δ=rt a):gw ga δ=rt (!a):=by
 unfold gw;rw [h1,aE]
theorem xn {cell k many:Int} (h1:fa δ=rt (.d (.int cell))) (h2:fb δ=rt (.d (.int k))) (h3:fc δ=rt (.d (.int many))) (hm:0<many):∃r,aN (ay 3 aA) (aa fa (aa fb (aa fc ai))) δ=rt (.d (.int r))/\0<=r/\r<many:=by
 obtain ⟨r,h,h0,hr⟩:=u5 cell k many hm;exact ⟨r,aY (fW h1 h2 h3) rfl rfl h,h0,hr⟩
theorem vT {K:Lb} {ns:List Int} {k:Int} (h1:fa δ=rt (.scr K ns)) (h2:fb δ=rt (.d (.int k))) (hk:0<=k):aN (ay 2 (aH K)) (aa fa (aa fb ai)) δ=rt (.d (.int (bC ns k))):=
 aY (bW h1 h2) rfl rfl (B4 K ns k hk)
theorem uk {i:Nat} (hi:δ[i]?=some (some (.own xs))) (h:f δ=rt x) (hd:v9 x=some d) (hl:xs.length<1000000):nE i f δ=rt (.nx (δ.set i (some (.own (xs++[d]))))):=by
 unfold nE;rw [hi];simp only;rw [h,aE,hd,a8,aE,if_pos hl]
theorem C6 {ys:List D} (h0:CU x y=none) (hx:k7 x=some xs) (hy:k7 y=some ys) (hl:xs.length+ys.length<=1000000):br x y=rt (.new (xs++ys)):=by
 unfold br Di;rw [h0];unfold B1;rw [hx,hy];exact if_pos hl
end
theorem lX (ps:List (Int×Int)):cy [.own (ps.map pr)]=rt (.d (.int (ps.length:Int))):=by
 show rt (DV.d (.int ((ps.map pr).length:Int)))=_;rw [List.length_map]
theorem ju (a b:Int):gx false (.d (.int a)) (.d (.int b))=rt (.d (.bool (a==b))):=rfl
noncomputable def tB:DS->M Out:=eQ (jJ (fun δ=>bd (e2 gn (k9 (af 2) (af 3)) (eC (.int 2)) δ) bD) (fun δ=>bd (e2 gn (aN cy (aa (af 2) ai)) (af 1) δ) bD)) (nE 2 (af 3)) bK
theorem wM {fo fe:DS->M DV} {x y:DV} (h1:fo δ=rt x) (hx:k7 x=some xs) (h2:fe δ=rt y):k9 fo fe δ=tW x y:=by
 unfold k9;rw [h1,aE,hx,a8,aE,h2,aE]
noncomputable def hB (K:Lb):DS->M Out:=(bH (aR 7 (aN (ay 2 (aH K)) (aa (af 0) (aa (e2 br (af 1) (af 6)) ai)))) (bH (Dm (nq 2 (dE (aq 8) (dE (aq 9) n4))) (aZ (aa (e2 br (eC (.int 1)) (aN (ay 3 (aA)) (aa (af 7) (aa (eC (.int 1)) (aa (af 2) ai))))) (aa (aN (ay 3 (aA)) (aa (af 7) (aa (eC (.int 2)) (aa (af 3) ai)))) ai)))) (bH (aR 10 (e2 br (eC (.int 2)) (aN (ay 3 (aA)) (aa (af 7) (aa (eC (.int 3)) (aa (eC (.int 4)) ai)))))) (bH (eQ (fun δ=>bd (e2 (gx false) (aN (ay 3 (aA)) (aa (af 7) (aa (eC (.int 4)) (aa (eC (.int 2)) ai)))) (eC (.int 0)) δ) bD) (aR 5 (e2 br (af 5) (aK 1 [9] (k8 (aa (af 8) (aa (e2 br (aN Al (aa (af 2) (aa (e2 gSub (e2 br (af 8) (af 10)) (eC (.int 1))) ai))) (eC (.int 1))) ai))) (aq 0) bA (aZ (aa (af 0) (aa (af 1) ai)))))) (aR 5 (e2 br (af 5) (aK 1 [8,7] (lx (aa (af 3) ai)) (aq 0) (fun δ=>bd (e2 mY (aN (ay 3 (aA)) (aa (af 2) (aa (e2 br (eC (.int 10)) (af 0)) (aa (eC (.int 4)) ai)))) (eC (.int 0)) δ) bD) (aZ (aa (af 1) (aa (af 0) ai))))))) (eQ (fun δ=>bd (e2 (gx false) (aN (ay 3 (aA)) (aa (af 7) (aa (eC (.int 5)) (aa (eC (.int 3)) ai)))) (eC (.int 0)) δ) bD) (nE 5 (aZ (aa (e2 br (eC (.int 1)) (aN (ay 3 (aA)) (aa (af 7) (aa (eC (.int 6)) (aa (af 2) ai))))) (aa (aN (ay 3 (aA)) (aa (af 7) (aa (eC (.int 7)) (aa (af 3) ai)))) ai)))) bK)))))
section
variable (K:Lb) (ns:List Int) (m c st lim:Int)
noncomputable def hδ (ts:List (Int×Int)) (x6 x7 x8 x9 x10:Option DV):DS:=[some (.scr K ns),some (.d (.int st)),some (.d (.int m)),some (.d (.int c)),some (.d (.int lim)),some (.own (ts.map pr)),x6,x7,x8,x9,x10]
theorem dh {α:Type} {f:α->D} {gc:DS->M Bool} {fe:DS->M DV} {δ:DS} {b:α->Bool} {g:α->D}:∀{as:List α},(∀a∈as,gc (δ.set 0 (some (.d (f a))))=rt (b a)/\fe (δ.set 0 (some (.d (f a))))=rt (.d (g a)))->cB (aq 0) gc fe δ (as.map f)=some ((as.filter b).map g)
 |[],_=>rfl
 |a::r,h=>by
  obtain ⟨h1,h2⟩:=h a KU;have ih:=dh (as:=r) fun e he=>h e (KS _ he);rw [List.map_cons];unfold cB;simp only [aq];rw [h1];cases hb:b a with
  |false=>
   rw [List.filter_cons_of_neg (by simp [hb])];exact ih
  |true=>
   rw [List.filter_cons_of_pos hb];simp only [rt];rw [h2,ih];rfl
theorem FO {sf:D->DS->Option DS} {f:DS->M DV} {δ':DS} {x:DV} (h:f δ=rt x) (hd:v9 x=some d) (hs:sf d δ=some δ'):Dm sf f δ=rt (.nx δ'):=by
 unfold Dm;rw [h,aE,hd,a8,aE,hs];rfl
variable {m c}
end
theorem tu (fs:List (Int×Int)) (p z:Int×Int):gr (fs++[p]) z=gr fs z+(if p=z then 1 else 0):=by
 unfold gr;rw [List.map_append,List.countP_append];simp only [List.map_cons,List.map_nil,List.countP_cons,List.countP_nil,lq];by_cases h:p=z <;> simp [h]
theorem xg (T:Option DV) (lim:Int) (fs:List (Int×Int)) (p:Int×Int) (hl:fs.length<=1000) :
  ∃NX:List (Int×Int),tB [T,some (.d (.int lim)),some (.own (fs.map pr)),some (.d (pr p))]=rt (.nx [T,some (.d (.int lim)),some (.own (NX.map pr)),some (.d (pr p))])/\((NX=fs)\/(NX=fs++[p]/\gr fs p<2/\(fs.length:Int)<lim)):=by
 have c1:k9 (af 2) (af 3) [T,some (.d (.int lim)),some (.own (fs.map pr)),some (.d (pr p))]=rt (.d (.int (gr fs p))):=(wM rfl rfl rfl).trans (CV fs p);have c2:aN cy (aa (af 2) ai) [T,some (.d (.int lim)),some (.own (fs.map pr)),some (.d (pr p))]=rt (.d (.int (fs.length:Int))):=(cm (bj rfl)).trans (lX fs);have t1:(jJ (fun δ=>bd (e2 gn (k9 (af 2) (af 3)) (eC (.int 2)) δ) bD) (fun δ=>bd (e2 gn (aN cy (aa (af 2) ai)) (af 1) δ) bD)) [T,some (.d (.int lim)),some (.own (fs.map pr)),some (.d (pr p))]=rt (decide (gr fs p<2)&&decide ((fs.length:Int)<lim)):=by
  exact Gm (aU ((au (y:=.d (.int 2)) c1 rfl).trans (d9 _ _))) (aU ((au (y:=.d (.int lim)) c2 rfl).trans (d9 _ _)))
 unfold tB;rw [jz t1];by_cases h:(decide (gr fs p<2)&&decide ((fs.length:Int)<lim))=true
 ·rw [if_pos h];refine ⟨fs++[p],?_,.inr ⟨rfl,?_⟩⟩
  ·rw [uk (xs:=fs.map pr) (x:=.d (pr p)) (d:=pr p) rfl rfl rfl (by rw [List.length_map]; lia)];rw [List.map_append];rfl
  ·rw [Bool.and_eq_true] at h;exact ⟨of_decide_eq_true h.1,of_decide_eq_true h.2⟩
 ·rw [if_neg h];exact ⟨fs,rfl,.inl rfl⟩
theorem qv (P:Int×Int->Prop) (T:Option DV) (lim:Int) (h1:0<=lim) (h2:lim<=900):∀(qs fs:List (Int×Int)) (x:Option DV),(fs.length:Int)<=lim->(∀p∈fs,P p)->(∀p∈qs,P p)->(∀p,gr fs p<=2) ->
  ∃(NX:List (Int×Int)) (x':Option DV),dU (aq 3) tB (qs.map pr) [T,some (.d (.int lim)),some (.own (fs.map pr)),x]=rt (.nx [T,some (.d (.int lim)),some (.own (NX.map pr)),x'])/\(NX.length:Int)<=lim/\(∀p∈NX,P p)/\(∀p,gr NX p<=2)
 |[],fs,x,hf,hP,_,hC=>⟨fs,x,rfl,hf,hP,hC⟩
 |p::qs,fs,x,hf,hP,hQ,hC=>by
  obtain ⟨fs1,e1,h⟩:=xg T lim fs p 0x1;have hf1:(fs1.length:Int)<=lim:=by
   rcases h with h|⟨h,_,h'⟩
   ·rw [h]; exact hf
   ·rw [h,List.length_append,List.length_singleton]; lia
  have hP1:∀p∈fs1,P p:=by
   rcases h with h|⟨h,_,h'⟩
   ·rw [h]; exact hP
   ·rw [h];intro z hz;rcases Ld.mp hz with hz|hz
    ·exact hP z hz
    ·rw [Lg.mp hz]; exact hQ p KU
  have hC1:∀p,gr fs1 p<=2:=by
   rcases h with h|⟨h,hc,h'⟩
   ·rw [h]; exact hC
   ·rw [h];intro z;rw [tu];split
    ·rename_i hz; rw [<-hz]; lia
    ·have:=hC z; lia
  obtain ⟨fs2,x2,e2,NR⟩:=qv P T lim h1 h2 qs fs1 (some (.d (pr p))) hf1 hP1 (fun z hz=>hQ z (KS _ hz)) hC1;refine ⟨fs2,x2,?_,NR⟩;rw [List.map_cons];unfold dU;have hs:aq 3 (pr p) [T,some (.d (.int lim)),some (.own (fs.map pr)),x]=some [T,some (.d (.int lim)),some (.own (fs.map pr)),some (.d (pr p))]:=rfl;rw [hs,a8,aE,e1,aE,pD];exact e2
theorem EO (P:Int×Int->Prop) (ps:List (Int×Int)) (hps:∀p∈ps,P p) (lim:Int) (h1:0<=lim) (h2:lim<=12):∃qs:List (Int×Int),cA [.d (.list (ps.map pr)),.d (.int lim)]=rt (.new (qs.map pr))/\(qs.length:Int)<=lim/\(∀p∈qs,P p)/\(∀p,gr qs p<=2)/\iu qs=true:=by
 obtain ⟨fs,x,e,hf,hP,hC⟩:=qv P (some (.d (.list (ps.map pr)))) lim h1 0x1 ps [] none (by simpa using h1) 0x4 hps (fun p=>by show (0:Int)<=2; decide);obtain ⟨qs,hq,hl⟩:=yE fs;have Nn:(qs.map pr).Perm (fs.map pr):=by rw [<-hq]; exact i9 _
 refine ⟨qs,?_,0x1,fun p hp=>?_,fun p=>?_,?_⟩
 rotate_left
 ·obtain ⟨z,hz,e⟩:=Lf.mp (Nn.mem_iff.mp (List.mem_map_of_mem hp));rw [<-Gx e]; exact hP z hz
 ·have:gr qs p=gr fs p:=by unfold gr; rw [Nn.countP_eq]
  rw [this]; exact hC p
 ·exact ya (by rw [<-hq]; exact oK _)
 unfold cA jX eE;have s1:aR 2 (bV ai) [some (.d (.list (ps.map pr))),some (.d (.int lim)),none,none]=rt (.nx [some (.d (.list (ps.map pr))),some (.d (.int lim)),some (.own []),none]):=rfl;have s2:b9 (iw (af 0)) (aq 3) tB [some (.d (.list (ps.map pr))),some (.d (.int lim)),some (.own []),none]=rt (.nx [some (.d (.list (ps.map pr))),some (.d (.int lim)),some (.own (fs.map pr)),x]):=by
  unfold b9;rw [f9 (xs:=ps.map pr) rfl,aE];exact e
 have s3:bt (aN lD (aa (af 2) ai)) [some (.d (.list (ps.map pr))),some (.d (.int lim)),some (.own (fs.map pr)),x]=rt (.rt (.new (qs.map pr))):=by
  refine bG ((cm (bj (x:=.own (fs.map pr)) rfl)).trans ?_);rw [xW (ps:=fs) rfl 0x1,hq]
 have hd:mS ["tiles", "limit", "found", "tile"] [.d (.list (ps.map pr)),.d (.int lim)]=[some (.d (.list (ps.map pr))),some (.d (.int lim)),none,none]:=rfl;rw [hd,show (eQ (jJ (fun δ=>bd (e2 gn (k9 (af 2) (af 3)) (eC (.int 2)) δ) bD) (fun δ=>bd (e2 gn (aN cy (aa (af 2) ai)) (af 1) δ) bD)) (nE 2 (af 3)) bK)=tB from rfl];rw [cg s1,cg s2,s3];rfl
section
variable (K:Lb) (ns:List Int) (m c st lim:Int)
theorem zH (δ:DS) (num hi col:Int) (h0:0<=num) (h1:num<=20) (h2:hi<=20) (h3:-5<=hi) (hd:δ[9]?=some (some (.d (.int col)))) {fi:DS->M (List DV)} (hf:fi δ=rt [.d (.int num),.d (.int hi)]) :
  ∃qs:List (Int×Int),aK 1 [9] (k8 fi) (aq 0) bA (aZ (aa (af 0) (aa (af 1) ai))) δ=rt (.new (qs.map pr))/\qs.length<=20/\(∀p∈qs,p.2=col/\num<=p.1/\p.1<hi):=by
 refine ⟨(List.range (hi-num).toNat).map fun (k:Nat)=>(num+(k:Int),col),?_,by simp; lia,fun p hp=>?_⟩
 rotate_left
 ·obtain ⟨k,hk,rfl⟩:=Lf.mp hp;have:=Lh.mp hk;exact ⟨rfl,by show num<=num+(k:Int); lia,by show num+(k:Int)<hi; lia⟩
 refine bb (gN hf 0x1 0x1 0x1 0x1) (by rw [dt]; lia) ?_;unfold cH cj;rw [List.map_map];refine cK fun k hk=>?_;have e:([9].map fun j=>(δ[j]?).join)=[some (.d (.int col))]:=by
  simp only [List.map_cons,List.map_nil,hd,Option.join_some]
 rw [e];exact fR rfl rfl
theorem zZ (δ:DS) (num cell:Int) (h1:c<=10) (h0:0<=c) (hd8:δ[8]?=some (some (.d (.int num)))) (hd7:δ[7]?=some (some (.d (.int cell)))) {fi:DS->M (List DV)} (hf:fi δ=rt [.d (.int c)]) :
  ∃qs:List (Int×Int),aK 1 [8,7] (lx fi) (aq 0) (fun δ=>bd (e2 mY (aN (ay 3 (aA)) (aa (af 2) (aa (e2 br (eC (.int 10)) (af 0)) (aa (eC (.int 4)) ai)))) (eC (.int 0)) δ) bD) (aZ (aa (af 1) (aa (af 0) ai))) δ=rt (.new (qs.map pr))/\qs.length<=20/\(∀p∈qs,p.1=num/\0<=p.2/\p.2<c):=by
 have hmix:∀k:Int,∃r,aA [.d (.int cell),.d (.int k),.d (.int 4)]=rt (.d (.int r)):=fun k=>let ⟨r,h,_⟩:=u5 cell k 4 0x3; ⟨r,h⟩
 let mx:Int->Int:=fun k=>(hmix k).choose
 have hmx:∀k,aA [.d (.int cell),.d (.int k),.d (.int 4)]=rt (.d (.int (mx k))):=fun k=>(hmix k).choose_spec;refine ⟨((List.range c.toNat).filter fun (k:Nat)=>decide (0<mx (10+(0+(k:Int))))).map fun (k:Nat)=>(num,0+(k:Int)),?_,?_,fun p hp=>?_⟩
 ·refine bb (fA hf 0x1 0x1) (by rw [dt]; lia) ?_;unfold cH cj;have e:([8,7].map fun j=>(δ[j]?).join)=[some (.d (.int num)),some (.d (.int cell))]:=by
   simp only [List.map_cons,List.map_nil,hd8,hd7,Option.join_some]
  rw [e,List.map_map];refine dh fun k hk=>⟨?_,fR rfl rfl⟩;exact aU ((au (y:=.d (.int 0)) (aY (fW (y:=.d (.int (10+(0+(k:Int))))) rfl ((au (x:=.d (.int 10)) (y:=.d (.int (0+(k:Int)))) rfl rfl).trans (cY _ _)) rfl) rfl rfl (hmx (10+(0+(k:Int))))) rfl).trans (gq _ _))
 ·rw [List.length_map];have:=List.length_filter_le (fun (k:Nat)=>decide (0<mx (10+(0+(k:Int))))) (List.range c.toNat);rw [List.length_range] at this;lia
 ·obtain ⟨k,hk,rfl⟩:=Lf.mp hp;have:=Lh.mp (Li.mp hk).1;exact ⟨rfl,by show (0:Int)<=0+(k:Int); lia,by show 0+(k:Int)<c; lia⟩
variable {m c}
theorem zF (hm:1<=m) (NG:m<=13) (hc:1<=c) (MD:c<=4) (k cell num col size:Int) (hcol:0<=col) (hcol':col<c) (hn:1<=num) (N3:num<=m) (hs:2<=size) (NM:size<=5) (ts:List (Int×Int)) (hl:ts.length<=500) (hP:∀p∈ts,bh m c p=true) :
  ∃Mh:List (Int×Int),eQ (fun δ=>bd (e2 (gx false) (aN (ay 3 (aA)) (aa (af 7) (aa (eC (.int 4)) (aa (eC (.int 2)) ai)))) (eC (.int 0)) δ) bD) (aR 5 (e2 br (af 5) (aK 1 [9] (k8 (aa (af 8) (aa (e2 br (aN Al (aa (af 2) (aa (e2 L3.gSub (e2 br (af 8) (af 10)) (eC (.int 1))) ai))) (eC (.int 1))) ai))) (aq 0) bA (aZ (aa (af 0) (aa (af 1) ai)))))) (aR 5 (e2 br (af 5) (aK 1 [8,7] (lx (aa (af 3) ai)) (aq 0) (fun δ=>bd (e2 mY (aN (ay 3 (aA)) (aa (af 2) (aa (e2 br (eC (.int 10)) (af 0)) (aa (eC (.int 4)) ai)))) (eC (.int 0)) δ) bD) (aZ (aa (af 1) (aa (af 0) ai))))))
   (hδ K ns m c st lim ts (some (.d (.int k))) (some (.d (.int cell))) (some (.d (.int num))) (some (.d (.int col))) (some (.d (.int size))))=rt (.nx (hδ K ns m c st lim Mh (some (.d (.int k))) (some (.d (.int cell))) (some (.d (.int num))) (some (.d (.int col))) (some (.d (.int size)))))/\Mh.length<=ts.length+20/\(∀p∈Mh,bh m c p=true):=by
 obtain ⟨r,hr,_⟩:=xn (δ:=hδ K ns m c st lim ts (some (.d (.int k))) (some (.d (.int cell))) (some (.d (.int num))) (some (.d (.int col))) (some (.d (.int size)))) (fa:=af 7) (fb:=eC (.int 4)) (fc:=eC (.int 2)) (cell:=cell) (k:=4) (many:=2) rfl rfl rfl 0x3;rw [jz (aU ((au (y:=.d (.int 0)) hr rfl).trans (ju _ _)))];have fin:∀(qs:List (Int×Int)) (f:DS->M DV),f (hδ K ns m c st lim ts (some (.d (.int k))) (some (.d (.int cell))) (some (.d (.int num))) (some (.d (.int col))) (some (.d (.int size))))=rt (.new (qs.map pr))->qs.length<=20 ->
   aR 5 (e2 br (af 5) f) (hδ K ns m c st lim ts (some (.d (.int k))) (some (.d (.int cell))) (some (.d (.int num))) (some (.d (.int col))) (some (.d (.int size))))=rt (.nx (hδ K ns m c st lim (ts++qs) (some (.d (.int k))) (some (.d (.int cell))) (some (.d (.int num))) (some (.d (.int col))) (some (.d (.int size))))):=fun qs f h hq=>by
  rw [jk (x:=.new (ts.map pr++qs.map pr)) (y:=.own (ts.map pr++qs.map pr)) ((au (x:=.own (ts.map pr)) (y:=.new (qs.map pr)) rfl h).trans (C6 (xs:=ts.map pr) (ys:=qs.map pr) rfl rfl rfl (by simp; lia))) rfl];unfold hδ;rw [List.map_append];rfl
 by_cases h:(r==0)=true
 ·rw [if_pos h];obtain ⟨qs,hq,hql,hqP⟩:=zH (hδ K ns m c st lim ts (some (.d (.int k))) (some (.d (.int cell))) (some (.d (.int num))) (some (.d (.int col))) (some (.d (.int size)))) num ((if num+size-1<m then num+size-1 else m)+1) col 0x1 0x1 (by split <;> lia) (by split <;> lia) rfl
   (fi:=aa (af 8) (aa (e2 br (aN Al (aa (af 2) (aa (e2 L3.gSub (e2 br (af 8) (af 10)) (eC (.int 1))) ai))) (eC (.int 1))) ai)) (bW rfl (au (x:=.d (.int (if num+size-1<m then num+size-1 else m))) (y:=.d (.int 1)) (cm (bW (x:=.d (.int m)) (y:=.d (.int (num+size-1))) rfl (au (x:=.d (.int (num+size))) (y:=.d (.int 1)) (au (x:=.d (.int num)) (y:=.d (.int size)) rfl rfl) rfl))) rfl))
  refine ⟨ts++qs,fin qs _ hq hql,by simp; lia,fun p hp=>?_⟩;rcases Ld.mp hp with hp|hp
  ·exact hP p hp
  ·obtain ⟨e1,e2,e3⟩:=hqP p hp;have hmin:(if num+size-1<m then num+size-1 else m)<=m:=by split <;> lia
   unfold bh; simp; lia
 ·rw [if_neg h];obtain ⟨qs,hq,hql,hqP⟩:=zZ c (hδ K ns m c st lim ts (some (.d (.int k))) (some (.d (.int cell))) (some (.d (.int num))) (some (.d (.int col))) (some (.d (.int size)))) num cell 0x1 0x1 rfl rfl (fi:=aa (af 3) ai) (bj rfl);refine ⟨ts++qs,fin qs _ hq hql,by simp; lia,fun p hp=>?_⟩;rcases Ld.mp hp with hp|hp
  ·exact hP p hp
  ·obtain ⟨e1,e2,e3⟩:=hqP p hp;unfold bh; simp; lia
theorem Ad (hm:1<=m) (NG:m<=13) (hc:1<=c) (MD:c<=4) (k cell:Int) (y8 y9 LU:Option DV) (ts:List (Int×Int)) (hl:ts.length<=900) (hP:∀p∈ts,bh m c p=true) :
  ∃Mh:List (Int×Int),eQ (fun δ=>bd (e2 (gx false) (aN (ay 3 (aA)) (aa (af 7) (aa (eC (.int 5)) (aa (eC (.int 3)) ai)))) (eC (.int 0)) δ) bD) (nE 5 (aZ (aa (e2 br (eC (.int 1)) (aN (ay 3 (aA)) (aa (af 7) (aa (eC (.int 6)) (aa (af 2) ai))))) (aa (aN (ay 3 (aA)) (aa (af 7) (aa (eC (.int 7)) (aa (af 3) ai)))) ai)))) bK
   (hδ K ns m c st lim ts (some (.d (.int k))) (some (.d (.int cell))) y8 y9 LU)=rt (.nx (hδ K ns m c st lim Mh (some (.d (.int k))) (some (.d (.int cell))) y8 y9 LU))/\Mh.length<=ts.length+1/\(∀p∈Mh,bh m c p=true):=by
 obtain ⟨r,hr,_⟩:=xn (δ:=hδ K ns m c st lim ts (some (.d (.int k))) (some (.d (.int cell))) y8 y9 LU) (fa:=af 7) (fb:=eC (.int 5)) (fc:=eC (.int 3)) (cell:=cell) (k:=5) (many:=3) rfl rfl rfl 0x3;obtain ⟨r6,h6,a6,b6⟩:=xn (δ:=hδ K ns m c st lim ts (some (.d (.int k))) (some (.d (.int cell))) y8 y9 LU) (fa:=af 7) (fb:=eC (.int 6)) (fc:=af 2) (cell:=cell) (k:=6) (many:=m) rfl rfl rfl 0x1;obtain ⟨r7,h7,a7,b7⟩:=xn (δ:=hδ K ns m c st lim ts (some (.d (.int k))) (some (.d (.int cell))) y8 y9 LU) (fa:=af 7) (fb:=eC (.int 7)) (fc:=af 3) (cell:=cell) (k:=7) (many:=c) rfl rfl rfl 0x1;rw [jz (aU ((au (y:=.d (.int 0)) hr rfl).trans (ju _ _)))];by_cases h:(r==0)=true
 ·rw [if_pos h];refine ⟨ts++[(1+r6,r7)],?_,0x4,fun p hp=>?_⟩
  rotate_left
  ·rcases Ld.mp hp with hp|hp
   ·exact hP p hp
   ·rw [Lg.mp hp];unfold bh; simp; lia
  rw [uk (xs:=ts.map pr) (x:=.d (pr (1+r6,r7))) (d:=pr (1+r6,r7)) rfl (fR ((au (x:=.d (.int 1)) (y:=.d (.int r6)) rfl h6).trans (cY _ _)) h7) rfl (by rw [List.length_map]; lia)];unfold hδ;rw [List.map_append];rfl
 ·rw [if_neg h];exact ⟨ts,rfl,0x1,hP⟩
theorem wt (hm:1<=m) (NG:m<=13) (hc:1<=c) (MD:c<=4) (k:Int) (hk:0<=k) (h0:0<=st) (ts:List (Int×Int)) (hl:ts.length<=500) (hP:∀p∈ts,bh m c p=true) (x7 x8 x9 x10:Option DV) :
  ∃(Mh:List (Int×Int)) (y7 y8 y9 LU:Option DV),hB K (hδ K ns m c st lim ts (some (.d (.int k))) x7 x8 x9 x10)=rt (.nx (hδ K ns m c st lim Mh (some (.d (.int k))) y7 y8 y9 LU))/\Mh.length<=ts.length+21/\(∀p∈Mh,bh m c p=true):=by
 have s7:aR 7 (aN (ay 2 (aH K)) (aa (af 0) (aa (e2 br (af 1) (af 6)) ai))) (hδ K ns m c st lim ts (some (.d (.int k))) x7 x8 x9 x10)=rt (.nx (hδ K ns m c st lim ts (some (.d (.int k))) (some (.d (.int (bC ns (st+k))))) x8 x9 x10)):=
  jk (y:=.d (.int (bC ns (st+k)))) (vT rfl ((au (x:=.d (.int st)) (y:=.d (.int k)) rfl rfl).trans (cY _ _)) 0x1) rfl
 generalize bC ns (st+k)=cell at s7;obtain ⟨r1,h1,a1,b1⟩:=xn (δ:=hδ K ns m c st lim ts (some (.d (.int k))) (some (.d (.int cell))) x8 x9 x10) (fa:=af 7) (fb:=eC (.int 1)) (fc:=af 2) (cell:=cell) (k:=1) (many:=m) rfl rfl rfl 0x1;obtain ⟨r2,h2,a2,b2⟩:=xn (δ:=hδ K ns m c st lim ts (some (.d (.int k))) (some (.d (.int cell))) x8 x9 x10) (fa:=af 7) (fb:=eC (.int 2)) (fc:=af 3) (cell:=cell) (k:=2) (many:=c) rfl rfl rfl 0x1;have s89:Dm (nq 2 (dE (aq 8) (dE (aq 9) n4))) (aZ (aa (e2 br (eC (.int 1)) (aN (ay 3 (aA)) (aa (af 7) (aa (eC (.int 1)) (aa (af 2) ai))))) (aa (aN (ay 3 (aA)) (aa (af 7) (aa (eC (.int 2)) (aa (af 3) ai)))) ai)))
   (hδ K ns m c st lim ts (some (.d (.int k))) (some (.d (.int cell))) x8 x9 x10)=rt (.nx (hδ K ns m c st lim ts (some (.d (.int k))) (some (.d (.int cell))) (some (.d (.int (1+r1)))) (some (.d (.int r2))) x10)):=
  FO (fR ((au (x:=.d (.int 1)) (y:=.d (.int r1)) rfl h1).trans (cY _ _)) h2) rfl rfl
 obtain ⟨r3,h3,a3,b3⟩:=xn (δ:=hδ K ns m c st lim ts (some (.d (.int k))) (some (.d (.int cell))) (some (.d (.int (1+r1)))) (some (.d (.int r2))) x10) (fa:=af 7) (fb:=eC (.int 3)) (fc:=eC (.int 4)) (cell:=cell) (k:=3) (many:=4) rfl rfl rfl 0x3;have s10:aR 10 (e2 br (eC (.int 2)) (aN (ay 3 (aA)) (aa (af 7) (aa (eC (.int 3)) (aa (eC (.int 4)) ai))))) (hδ K ns m c st lim ts (some (.d (.int k))) (some (.d (.int cell))) (some (.d (.int (1+r1)))) (some (.d (.int r2))) x10)=rt (.nx (hδ K ns m c st lim ts (some (.d (.int k))) (some (.d (.int cell))) (some (.d (.int (1+r1)))) (some (.d (.int r2))) (some (.d (.int (2+r3)))))):=
  jk (y:=.d (.int (2+r3))) ((au (x:=.d (.int 2)) (y:=.d (.int r3)) rfl h3).trans (cY _ _)) rfl
 obtain ⟨ts1,s11,l1,P1⟩:=zF K ns st lim hm NG hc MD k cell (1+r1) r2 (2+r3) a2 b2 0x1 0x1 0x1 0x1 ts hl hP;obtain ⟨ts2,s12,l2,P2⟩:=Ad K ns st lim hm NG hc MD k cell (some (.d (.int (1+r1)))) (some (.d (.int r2))) (some (.d (.int (2+r3)))) ts1 0x1 P1;refine ⟨ts2,some (.d (.int cell)),some (.d (.int (1+r1))),some (.d (.int r2)),some (.d (.int (2+r3))),?_,0x1,P2⟩;unfold hB;rw [cg s7,cg s89,cg s10,cg s11];exact s12
theorem qb (hm:1<=m) (NG:m<=13) (hc:1<=c) (MD:c<=4) (M8:0<=st):∀(ks:List Int) (ts:List (Int×Int)) (x6 x7 x8 x9 x10:Option DV),(∀k∈ks,0<=k)->ts.length+21*ks.length<=500->(∀p∈ts,bh m c p=true) ->
  ∃(Mh:List (Int×Int)) (y6 y7 y8 y9 LU:Option DV),dU (aq 6) (hB K) (ks.map PyData.int) (hδ K ns m c st lim ts x6 x7 x8 x9 x10)=rt (.nx (hδ K ns m c st lim Mh y6 y7 y8 y9 LU))/\Mh.length<=500/\(∀p∈Mh,bh m c p=true)
 |[],ts,x6,x7,x8,x9,x10,_,hl,hP=>⟨ts,x6,x7,x8,x9,x10,rfl,by simpa using hl,hP⟩
 |k::ks,ts,x6,x7,x8,x9,x10,h0,hl,hP=>by
  rw [List.length_cons] at hl;obtain ⟨ts1,y7,y8,y9,LU,e1,l1,P1⟩:=wt K ns st lim hm NG hc MD k (h0 k KU) M8 ts 0x1 hP x7 x8 x9 x10;obtain ⟨ts2,z6,z7,z8,z9,z10,e2,l2⟩:=qb hm NG hc MD M8 ks ts1 (some (.d (.int k))) y7 y8 y9 LU (fun k' h=>h0 k' (KS _ h)) 0x1 P1;refine ⟨ts2,z6,z7,z8,z9,z10,?_,l2⟩;rw [List.map_cons];unfold dU;have hs:aq 6 (.int k) (hδ K ns m c st lim ts x6 x7 x8 x9 x10)=some (hδ K ns m c st lim ts (some (.d (.int k))) x7 x8 x9 x10):=rfl;rw [hs,a8,aE,e1,aE,pD];exact e2
end
theorem Ar (K:Lb) (ns:List Int) (m c st lim:Int) (h0:0<=st) (h1:1<=lim) (NZ:lim<=12) (ts:List (Int×Int)) (hP:∀p∈ts,bh m c p=true) (y6 y7 y8 y9 LU:Option DV) :
  ∃qs:List (Int×Int),(fun δ=>(bt (aN (ay 2 (cA)) (aa (af 5) (aa (e2 br (eC (.int 1)) (e2 iZ (aN (ay 2 (aH K)) (aa (af 0) (aa (e2 br (af 1) (eC (.int 3))) ai))) (af 4))) ai)))) (frz 5 δ)) (hδ K ns m c st lim ts y6 y7 y8 y9 LU)=rt (.rt (.new (qs.map pr)))/\(qs.length:Int)<=lim/\(∀p∈qs,bh m c p=true)/\(∀p,gr qs p<=2)/\iu qs=true:=by
 have b0:=Int.emod_nonneg (bC ns (st+3)) (show lim≠0 by lia);have b1:=Int.emod_lt_of_pos (bC ns (st+3)) (show 0<lim by lia);obtain ⟨qs,hq,hl⟩:=EO (fun p=>bh m c p=true) ts hP (1+bC ns (st+3) % lim) 0x1 0x1;refine ⟨qs,?_,0x1,hl.2⟩;have hf:frz 5 (hδ K ns m c st lim ts y6 y7 y8 y9 LU)=[some (.scr K ns),some (.d (.int st)),some (.d (.int m)),some (.d (.int c)),some (.d (.int lim)),some (.d (.list (ts.map pr))),y6,y7,y8,y9,LU]:=rfl;show bt _ (frz 5 _)=_;rw [hf];refine bG (aY (bW (x:=.d (.list (ts.map pr))) (y:=.d (.int (1+bC ns (st+3) % lim))) rfl ?_) rfl rfl hq);refine (au (x:=.d (.int 1)) (y:=.d (.int (bC ns (st+3) % lim))) rfl ?_).trans (cY _ _);exact (au (x:=.d (.int (bC ns (st+3)))) (y:=.d (.int lim)) (vT rfl ((au (x:=.d (.int st)) (y:=.d (.int 3)) rfl rfl).trans (cY _ _)) 0x1) rfl).trans (dJ 0x1)
theorem xp (K:Lb) (ns:List Int) (m c st lim:Int) (h0:0<=st) (h1:1<=lim) (NZ:lim<=12) (hm:1<=m) (NG:m<=13) (hc:1<=c) (MD:c<=4) :
  ∃qs:List (Int×Int),dQ K [.scr K ns,.d (.int st),.d (.int m),.d (.int c),.d (.int lim)]=rt (.new (qs.map pr))/\(qs.length:Int)<=lim/\(∀p∈qs,bh m c p=true)/\(∀p,gr qs p<=2)/\iu qs=true:=by
 obtain ⟨ts,y6,y7,y8,y9,LU,hlp,htl,hP⟩:=qb K ns st lim hm NG hc MD h0 [0,1,2] [] none none none none none 0x3 0x3 0x4;have s1:aR 5 (bV ai) [some (.scr K ns),some (.d (.int st)),some (.d (.int m)),some (.d (.int c)),some (.d (.int lim)),none,none,none,none,none,none]=rt (.nx (hδ K ns m c st lim [] none none none none none)):=rfl;have s2:b9 (lx (aa (eC (.int 3)) ai)) (aq 6) (hB K) (hδ K ns m c st lim [] none none none none none)=rt (.nx (hδ K ns m c st lim ts y6 y7 y8 y9 LU)):=by
  unfold b9;rw [fA (j:=3) (bj rfl) 0x3 0x3,aE];exact hlp
 have hlen:aN cy (aa (af 5) ai) (hδ K ns m c st lim ts y6 y7 y8 y9 LU)=rt (.d (.int (ts.length:Int))):=(cm (bj (x:=.own (ts.map pr)) rfl)).trans (lX ts);have s3:∃Mh:List (Int×Int),eQ (fun δ=>bd (e2 (gx false) (aN cy (aa (af 5) ai)) (eC (.int 0)) δ) bD) (aR 5 (bV (aa (aZ (aa (eC (.int 1)) (aa (eC (.int 0)) ai))) ai))) bK (hδ K ns m c st lim ts y6 y7 y8 y9 LU)=rt (.nx (hδ K ns m c st lim Mh y6 y7 y8 y9 LU))/\(∀p∈Mh,bh m c p=true):=by
  rw [jz (aU ((au (y:=.d (.int 0)) hlen rfl).trans (ju _ _)))];by_cases h:(((ts.length:Int))==0)=true
  ·rw [if_pos h];exact ⟨[(1,0)],rfl,fun p hp=>by rw [Lg.mp hp]; unfold bh; simp; lia⟩
  ·rw [if_neg h];exact ⟨ts,rfl,hP⟩
 obtain ⟨Mh,s3,Oa⟩:=s3;have MC:e2 iZ (aN (ay 2 (aH K)) (aa (af 0) (aa (e2 br (af 1) (eC (.int 3))) ai))) (eC (.int 9)) (hδ K ns m c st lim Mh y6 y7 y8 y9 LU)=rt (.d (.int (bC ns (st+3) % 9))):=
  (au (x:=.d (.int (bC ns (st+3)))) (y:=.d (.int 9)) (vT rfl ((au (x:=.d (.int st)) (y:=.d (.int 3)) rfl rfl).trans (cY _ _)) 0x1) rfl).trans (dJ 0x3)
 have hif:eQ (fun δ=>bd (e2 (gx false) (e2 iZ (aN (ay 2 (aH K)) (aa (af 0) (aa (e2 br (af 1) (eC (.int 3))) ai))) (eC (.int 9))) (eC (.int 7)) δ) bD) (bt (bV ai)) bK (hδ K ns m c st lim Mh y6 y7 y8 y9 LU)=if (bC ns (st+3) % 9==7)=true then bt (bV ai) (hδ K ns m c st lim Mh y6 y7 y8 y9 LU) else bK (hδ K ns m c st lim Mh y6 y7 y8 y9 LU):=
  jz (aU ((au (y:=.d (.int 7)) (fb:=eC (.int 7)) MC rfl).trans (ju _ _)))
 obtain ⟨qs,he,hl⟩:=Ar K ns m c st lim h0 h1 NZ Mh Oa y6 y7 y8 y9 LU;unfold dQ eE;have hd:mS ["script", "start", "most", "colours", "limit", "tiles", "k", "cell", "number", "colour", "size"] [.scr K ns,.d (.int st),.d (.int m),.d (.int c),.d (.int lim)]=[some (.scr K ns),some (.d (.int st)),some (.d (.int m)),some (.d (.int c)),some (.d (.int lim)),none,none,none,none,none,none]:=rfl;rw [hd];have hF:j9 K=bH (aR 5 (bV ai)) (bH (b9 (lx (aa (eC (.int 3)) ai)) (aq 6) (hB K)) (bH (eQ (fun δ=>bd (e2 (gx false) (aN cy (aa (af 5) ai)) (eC (.int 0)) δ) bD) (aR 5 (bV (aa (aZ (aa (eC (.int 1)) (aa (eC (.int 0)) ai))) ai))) bK) (bH (eQ (fun δ=>bd (e2 (gx false) (e2 iZ (aN (ay 2 (aH K)) (aa (af 0) (aa (e2 br (af 1) (eC (.int 3))) ai))) (eC (.int 9))) (eC (.int 7)) δ) bD) (bt (bV ai)) bK) (fun δ=>(bt (aN (ay 2 (cA)) (aa (af 5) (aa (e2 br (eC (.int 1)) (e2 iZ (aN (ay 2 (aH K)) (aa (af 0) (aa (e2 br (af 1) (eC (.int 3))) ai))) (af 4))) ai)))) (frz 5 δ))))):=rfl;rw [hF,cg s1,cg s2,cg s3];by_cases h:(bC ns (st+3) % 9==7)=true
 ·rw [if_pos h] at hif;refine ⟨[],?_,by simp; lia,0x4,fun p=>by show (0:Int)<=2; decide,rfl⟩;rw [ro (hif.trans (bG (x:=.new []) rfl))];rfl
 ·rw [if_neg h] at hif;refine ⟨qs,?_,hl⟩;rw [cg (hif.trans (show bK _=rt (.nx _) from rfl))];exact (congrArg (fun z=>bd z zY) he).trans rfl
abbrev Tl:=Int×Int
theorem lJ (ps:List Tl) (p:Tl):gr ps p=((ps.count p:Nat):Int):=by
 unfold gr;rw [List.countP_map,List.count_eq_countP];congr 1;refine List.countP_congr fun q _=>?_;show (PyData.eqv (pr q) (pr p))=true↔_;rw [lq];simp
theorem tm (a b:Tl->Int):∀ks:List Tl,(ks.map fun p=>a p+b p).sum=(ks.map a).sum+(ks.map b).sum
 |[]=>rfl
 |k::r=>by simp only [List.map_cons,List.sum_cons]; rw [tm a b r]; lia
theorem qx (a:Tl->Int):∀ks:List Tl,(∀p∈ks,a p=0)->(ks.map a).sum=0
 |[],_=>rfl
 |k::r,h=>by
  simp only [List.map_cons,List.sum_cons];rw [h k KU,qx a r fun p hp=>h p (KS _ hp)];rfl
theorem zg (f:Tl->Int) (x:Tl):∀ks:List Tl,ks.Nodup->x∈ks->(ks.map fun p=>(if x=p then f p else 0)).sum=f x
 |[],_,h=>nomatch h
 |k::r,hn,h=>by
  have N3:=List.nodup_cons.mp hn;simp only [List.map_cons,List.sum_cons];by_cases hk:x=k
  ·subst hk;rw [if_pos rfl,qx _ r fun p hp=>if_neg fun (e:x=p)=>N3.1 (by rw [e]; exact hp)];lia
  ·rw [if_neg hk,zg f x r N3.2 ((Lc.mp h).resolve_left hk)];lia
theorem Dv (f:Tl->Int) {ks:List Tl} (hn:ks.Nodup):∀L:List Tl,(∀x∈L,x∈ks)->(L.map f).sum=(ks.map fun p=>(L.count p:Int)*f p).sum
 |[],_=>(qx _ ks fun p _=>0x4).symm
 |x::r,h=>by
  have ih:=Dv f hn r fun y hy=>h y (KS _ hy);have h1:=zg f x ks hn (h x KU);simp only [List.map_cons,List.sum_cons];rw [ih,<-h1,<-tm];congr 1;refine List.map_congr_left fun p _=>?_;rw [List.count_cons];by_cases hx:x=p
  ·subst hx;simp;rw [Int.add_mul];lia
  ·have:(x==p)=false:=by simpa using hx
   rw [if_neg hx,this];simp
noncomputable def av (hand need:List Tl):List Tl:=need.foldl (fun r t=>r.erase t) hand
theorem jm (p:Tl):∀(need hand:List Tl),(av hand need).count p=hand.count p-need.count p
 |[],hand=>by unfold av; simp
 |t::need,hand=>by
  show (av (hand.erase t) need).count p=_;rw [jm p need,List.count_erase,List.count_cons];by_cases h:t=p
  ·subst h; simp; lia
  ·have:(t==p)=false:=by simpa using h
   rw [this]; simp
theorem cZ:∀(need hand:List Tl),(av hand need).Sublist hand
 |[],hand=>List.Sublist.refl _
 |t::need,hand=>(cZ need (hand.erase t)).trans List.erase_sublist
end LW
namespace L3
open PySem PySem.Spec L2
open PyProof.Rows hiding St
noncomputable def AL:List Int->Int
 |[]=>0
 |[a]=>a
 |a::r=>min a (AL r)
theorem tX:∀{ns:List Int} {a:Int},a∈ns->AL ns<=a
 |[b],a,h=>by simp at h; subst h; exact Int.le_refl _
 |b::c::r,a,h=>by
  show min b (AL (c::r))<=a;rcases Lc.mp h with e|h
  ·subst e; exact Int.min_le_left _ _
  ·exact Ly (Int.min_le_right _ _) (tX h)
theorem oM:∀{ns:List Int},ns≠[]->AL ns∈ns
 |[b],_=>KU
 |b::c::r,_=>by
  show min b (AL (c::r))∈b::c::r;rcases Int.le_total b (AL (c::r)) with h|h
  ·rw [Int.min_eq_left h]; exact KU
  ·rw [Int.min_eq_right h]; exact KS _ (oM 0x4)
section
variable {X:Cx} {E:XK}
end
open Classical in
noncomputable def tP (P:Program) (w:World) (C:Addr) (x:DV):Option (By×(PyData->Option Int)×List PyData):=match x with
 |.fz (.tb P' w' C' l f U)=>if P'=P/\w'=w/\C'=C then some (l,f,U) else none
 |_=>none
@[simp] theorem tq (P:Program) (w:World) (C:Addr) (l:By) (f:PyData->Option Int) (U:List PyData):tP P w C (.fz (.tb P w C l f U))=some (l,f,U):=if_pos ⟨rfl,rfl,rfl⟩
theorem ng {P:Program} {w:World} {C:Addr} {x:DV} {l:By} {f:PyData->Option Int} {U:List PyData} (h:tP P w C x=some (l,f,U)):x=.fz (.tb P w C l f U):=by
 unfold tP at h;split at h
 ·split at h
  ·rename_i z;obtain ⟨rfl,rfl,rfl⟩:=z;cases h; rfl
  ·cases h
 ·cases h
structure HasM (P:Program) (w:World) (K:Lb) (mg:Str->Option Value) (base:Heap) (k:Nat) (C:Addr) (m:Str) (n:Nat) (fm:List DV->M DV):Prop where
 ex:∃fn fd ps,FnOk P w K mg base uH k fn fd ps (Ep n fm)/\Meth K C m fn/\gi K fd ps []
 no:∀v u:V,([("by_least",v),("known",u)]:List (Str×V)).lookup m=none
theorem yr {m:Str} (h1:(m==("by_least" : Str))=false) (h2:(m==("known" : Str))=false) (v u:V):([("by_least",v),("known",u)]:List (Str×V)).lookup m=none:=by
 rw [List.lookup_cons,h1,List.lookup_cons,h2]; rfl
noncomputable def kn (P:Program) (w:World) (C:Addr) (n:Nat) (fm:List DV->M DV) (fo:DS->M DV) (fr:DS->M (List DV)) (δ:DS):M DV:=bd (fo δ) fun x=>bd (op (tP P w C x)) fun _=>bd (fr δ) fun ys=>ay n fm (x::ys)
section
variable {X:Cx} {E:XK} {o e f:Expr} {es:List Expr} {pos apos F' p1 p2:Pos} {fo fe ff:DS->M DV} {fr:DS->M (List DV)} {C:Addr}
theorem oF {pl:Sem Bool} {k n:Nat} {m:Str} {fm:List DV->M DV} (F:HasM X.prog X.w X.K X.mg X.base k C m n fm) (hr:Room k X.A) (c:Cls X.K C) (ho:PX X E o fo) (ha:vg X E (e::es) fr)
  (M8:starEach (e::es) X.env=(false,eval e X.env)::starEach es X.env:=by rfl) (L9:(backTo pos (starEach es X.env)).any (·.1)=false:=by rfl)
  (ht:eval (.Call (.Attribute o m apos) (e::es) [] pos) X.env=(do
   let ov <-eval o X.env
   standAt apos.atName
   let (f,first) <-holding [ov] (getMethod ov m pl)
   callWith pos f first (backTo pos (starEach (e::es) X.env)) (backToKw pos (keywordEach [] X.env))):=by rfl) :
  PX X E (.Call (.Attribute o m apos) (e::es) [] pos) (kn X.prog X.w C n fm fo fr):=by
 obtain ⟨fn,fd,ps,h1,h2,h3⟩:=F.ex;refine PE.mono (EE (E:=E0) ho c h2 h1 hr h3 .nil (fun _ _ _ _ _ _ _ h=>h.elim) ha M8 L9 ht) fun σ H Q q=>?_;refine kR (g:=fun δ x=>bd (op (tP X.prog X.w C x)) fun _=>bd (fr δ) fun ys=>ay n fm (x::ys)) q fun O P δ x r v H1 rs LC s1 rx e q=>?_;obtain ⟨⟨l,f,U⟩,e0,e⟩:=bQ e;have hx:=ng e0;subst hx;obtain ⟨a,dx,rfl,hz,b,m',kvs,hA,Nm⟩:=id rx;refine ⟨a,dx,_,rfl,hA,F.no _ _,?_⟩;rcases az e with ⟨ys,e1,e2⟩|⟨cx,e1,e2⟩
 ·refine ⟨O,P,δ,.ok ys,LC,e1,fun vs H2 s2 ry=>?_⟩;obtain ⟨zs,h1,h2⟩:=bQ e2;split at h2
  ·rename_i hl;cases hf:fm zs with
   |none=>rw [hf] at h2; cases h2
   |some z=>
    rw [hf] at h2;cases z with
    |error c=>cases h2
    |ok x=>
     cases h2;have rall:lU O P H1 H2 (.fz (.tb X.prog X.w C l f U)::ys) (.ref a::vs):=.cons (show yn (P++O) H2 _ _ from yn.kp (.same s2) (show yn (P++O) H1 _ _ from rx)) ry;have rz:=lU.hand LC.dom s2 rall h1;refine ⟨?_,P++O,zs,x,fun a ha=>?_,?_,hf,fun v H' s3 rv=>q v H' (s2.trans s3) (rv.back (s1.trans s2))⟩
     ·rw [List.append_nil];exact (Paired.length rz).symm.trans hl
     ·obtain ⟨o,e'⟩:=LC.dom a ha;exact ⟨o,s2 a o e'⟩
     ·rw [List.append_nil]; exact rz
  ·cases h2
 ·subst e2;exact ⟨O,P,δ,.error cx,LC,e1,q⟩
noncomputable def qB:DV->Option d7
 |.d (.tuple [.int a,.int b])=>some (a,b)
 |_=>none
variable {t:d7}
theorem uR {x:DV} (h:qB x=some t):x=.d (tD t):=by
 unfold qB at h;split at h
 ·cases h; rfl
 ·cases h
noncomputable def c8 (l:By) (t:d7):List (List d7):=((l.find? fun x=>decide (x.1=t)).map (·.2)).getD []
noncomputable def pH:DV->Bool
 |.new []=>true
 |_=>false
noncomputable def Fe (P:Program) (w:World) (C:Addr) (fo fe ff:DS->M DV) (δ:DS):M DV:=bd (fo δ) fun x=>bd (op (tP P w C x)) fun q=>bd (fe δ) fun y=>bd (op (qB y)) fun t=>bd (ff δ) fun z=>if pH z=true then rt (.d (.list ((c8 q.1 t).map wD))) else none
theorem ui {s:d7} (h:tD s=tD t):s=t:=by
 unfold tD at h
 injection h with h
 injection h with h1 h2
 injection h2 with h2 _
 injection h1 with h1
 injection h2 with h2
 exact Prod.ext h1 h2
theorem BK.at {Z:List Addr} {H:Hp} {l:By} {kvs:List (D×V)} (h:BK Z H l kvs) (t:d7):(lV kvs (tD t)=none/\c8 l t=[])\/∃v,lV kvs (tD t)=some v/\Rp Z H (.list ((c8 l t).map wD)) v:=by
 unfold BK at h
 induction h with
 |nil=>exact .inl ⟨rfl,rfl⟩
 |@cons p q ps qs h t' ih=>
  by_cases e:p.1=t
  ·have e':q.1=tD t:=by rw [h.1,e]
   refine .inr ⟨q.2,by simp [lV,List.find?_cons,e'],?_⟩;have:c8 (p::ps) t=p.2:=by simp [c8,List.find?_cons,e]
   rw [this]; exact h.2
  ·have e':¬q.1=tD t:=fun z=>e (ui (h.1.symm.trans z));have a1:lV (q::qs) (tD t)=lV qs (tD t):=by simp [lV,List.find?_cons,e']
   have a2:c8 (p::ps) t=c8 ps t:=by simp [c8,List.find?_cons,e]
   rw [a1,a2]; exact ih
theorem RpT.of {Z:List Addr} {H:Hp} {v:V} (h:Rp Z H (tD t) v):∃b,v=.ref b/\RpT (tv H) (tD t) (.ref b):=by
 unfold tD at h;cases h with
 |@tup a xs vs hz ha l=>
  refine ⟨a,rfl,.tup ha ?_⟩;cases l with
  |cons h1 l=>
   cases l with
   |cons h2 l=>
    cases l;cases h1;cases h2;exact .cons (.int _) (.cons (.int _) .nil)
theorem ES (hu:X.A.units+20<cLine) (c:Cls X.K C) (hn:eR X.K C "by_least") (ho:PX X E o fo) (he:PX X E e fe) (hf:PX X E f ff)
  (hb1:attributeBase o "by_least" X.env (eval o X.env)=eval o X.env:=by rfl) (hb2:attributeBase (.Attribute o "by_least" p1) "get" X.env (eval (.Attribute o "by_least" p1) X.env)=eval (.Attribute o "by_least" p1) X.env:=by rfl)
  (few:((backTo F' (starEach [e,f] X.env)).all (fun x=>!x.1)&&(backToKw F' (keywordEach [] X.env)).all (fun x=>x.1.isSome)
   && decide (([e,f]:List Expr).length+([]:List Keyword).length+(if ([]:List Keyword).isEmpty then 0 else 1)<30))=true:=by rfl)
  (line:(apos.endLine==F'.line)=true:=by rfl) (trees:backTo F' (starEach [e,f] X.env)=[(false,eval e X.env),(false,eval f X.env)]:=by rfl) :
  PX X E (.Call (.Attribute (.Attribute o "by_least" p1) "get" apos) [e,f] [] F') (Fe X.prog X.w C fo fe ff):=by
 intro pins s σ H Q I h;refine wpAny_Call_method hb2 few line PySem.F.plainAttrs_dict PySem.F.slot_dict_get PySem.F.type_dict_get (cG (AD ho hb1 pins s σ H (fun v H1=>∃O P δ a dx b m kvs l g U r,RS O P H1 σ δ/\aF H H1/\v=.ref b/\yn (P++O) H1 (.tb X.prog X.w C l g U) (.ref a)/\H1 a=some (.ins C dx [("by_least",.ref b),("known",.ref m)])/\H1 b=some (dO X.prog X.w b kvs)/\BK (P++O) H1 l kvs /\
  (bd (fe δ) fun y=>bd (op (qB y)) fun t=>bd (ff δ) fun z=>if pH z=true then rt (.d (.list ((c8 l t).map wD))) else none)=some r/\Fn E O P H H1 Q r) I ?_) fun u s1 zz=>?_)
 ·refine kR (g:=fun δ x=>bd (op (tP X.prog X.w C x)) fun q=>bd (fe δ) fun y=>bd (op (qB y)) fun t=>bd (ff δ) fun z=>if pH z=true then rt (.d (.list ((c8 q.1 t).map wD))) else none) h fun O P δ x r v H1 rs LC s1 rx e q=>?_;obtain ⟨⟨l,f,U⟩,e0,e9⟩:=bQ e;have hx:=ng e0;subst hx;obtain ⟨a,dx,rfl,hz,b,m',kvs,hA,hb,eb,hl,hm,em⟩:=id rx;exact ⟨a,C,dx,_,.ref b,rfl,hA,c,hn,rfl,O,P,δ,a,dx,b,m',kvs,l,f,U,r,LC,s1,rfl,rx,hA,eb,hl,e9,q⟩
 ·obtain ⟨v,H1,I1,rv,O,P,δ,a,dx,b,m,kvs,l,g,U,r,LC,s1',ev,fz,ea,eb,hl,e1,q1⟩:=zz;subst ev;obtain rfl:u=Value.ref b:=rv;have x:=yU I1.hok eb;refine ⟨x.type.1,fun b' z=>?_,?_⟩
  ·cases z; exact x.type.2
  rw [trees];refine Calls.callWith_builtin rfl (Calls.evalArgs_plain (Calls.spliced_cons (cG (he pins s1 σ H1 (fun v H2=>∃t kb r',aF H1 H2/\v=.ref kb/\RpT (tv H2) (tD t) (.ref kb)/\(bd (ff δ) fun z=>if pH z=true then rt (.d (.list ((c8 l t).map wD))) else none)=some r'/\Fn E O P H H2 Q r') I1 ?_)
   fun iv s2 ⟨y,H2,I2,ry,t,kb,r',s2',ey,hT,e2,q2⟩=>Calls.spliced_cons (cG (hf pins s2 σ H2 (fun v H3=>aF H2 H3/\Rp (P++O) H3 (.list []) v/\∀v H4,aF H3 H4->Rp (P++O) H4 (.list ((c8 l t).map wD)) v->Q v H4) I2 ?_) fun fv s3 ⟨z,H3,I3,rz,Mx,rn,q3⟩=>Calls.spliced_nil ?_))))
  ·rcases az e1 with ⟨y,e2,e3⟩|⟨cx,e2,e3⟩
   ·refine ⟨O,P,δ,.ok y,LC,e2,fun v H2 s2 ry=>?_⟩;obtain ⟨t,e4,e5⟩:=bQ e3;have hy:=uR e4;subst hy;obtain ⟨kb,rfl,hT⟩:=RpT.of (show Rp (P++O) H2 (tD t) v from ry);exact ⟨t,kb,r,s2,rfl,hT,e5,q1.on s2⟩
   ·subst e3;exact ⟨O,P,δ,.error cx,LC,e2,q1⟩
  ·rcases az e2 with ⟨z,e3,e4⟩|⟨cx,e3,e4⟩
   ·refine ⟨O,P,δ,.ok z,LC.same s2',e3,fun v H3 s3 rz=>?_⟩;split at e4
    ·rename_i hz;cases e4;have hz':z=.new []:=by
      unfold pH at hz;split at hz
      ·rfl
      ·cases hz
     subst hz';exact ⟨s3,l9 (LC.same s2').dom rz,fun v H4 s4 rv=>q2 v H4 (s3.trans s4) rv⟩
    ·cases e4
   ·subst e4;exact ⟨O,P,δ,.error cx,LC.same s2',e3,q2⟩
  ·cases ey;obtain rfl:iv=Value.ref kb:=ry;have eb3:=Mx _ _ (s2' _ _ eb);have x3:=yU I3.hok eb3;refine HM hu I3 x3 (k:=tD t) rfl (Nat.le_of_lt (by decide:1<6)) (RpT.mono (fun b xs q=>Mx _ _ q) hT) rz fun w' s4 I4 rw'=>⟨_,H3,I4,rw',q3 _ H3 (aF.refl H3) ?_⟩;rcases (hl.kp (.same (s2'.trans Mx))).at t with ⟨a1,a2⟩|⟨v,a1,a2⟩
   ·rw [a1,a2]; exact rn
   ·rw [a1]; exact a2
end
open Classical in
section
variable {X:Cx} {E:XK} {o ke value:Expr} {i j:Nat} {p1 p2 p3 p4 p5 p6 p7 p8 p9:Pos} {fv:DS->M DV} {C:Addr}
end
noncomputable def jG (l:By) (t:d7):Bool:=l.any fun x=>decide (x.1=t)
noncomputable def fu (l:By) (t:d7) (w:List d7):By:=if jG l t=true then l.map fun x=>if x.1=t then (x.1,x.2++[w]) else x else l++[(t,[w])]
def BP (O P:List Addr) (H:Hp) (p:d7×List (List d7)) (q:D×V):Prop:=q.1=tD p.1/\∃a vs,q.2=.ref a/\a∈P/\H a=some (.lst vs)/\RpL (P++O) H (p.2.map wD) vs
structure BI (Pr:Program) (w:World) (O P:List Addr) (H:Hp) (b:Addr) (l:By) (kvs:List (D×V)):Prop where
 mem:b∈P
 at':H b=some (dO Pr w b kvs)
 pr:Paired (BP O P H) l kvs
 nd:(kvs.map (·.2)).Nodup
 nk:(l.map (·.1)).Nodup
variable {H:Hp} {σ:St}
theorem RS.moved {O P P':List Addr} {H':Hp} {δ:DS} (r:RS O P H σ δ) (hd:∀(i:Nat) (x:DV),δ[i]?=some (some x)->∃d,x=.d d) (k:Kp P H P' H') (dom:∀a,a∈P'->∃o,H' a=some o) (ap:∀a,a∈P'->a∉O):RS O P' H' σ δ:=by
 refine ⟨r.len,fun a ha=>?_,ap,fun i x e=>?_,fun i j x y v w a e1 e2 e3 e4 o1 o2=>?_⟩
 ·rcases Ld.mp ha with h|h
  ·exact dom a h
  ·obtain ⟨o,e⟩:=r.dom a (KY _ h);exact ⟨o,k.keep a o (fun z=>r.apart a z h) e⟩
 ·obtain ⟨d,rfl⟩:=hd i x e;obtain ⟨v,e1,e2,e3⟩:=r.at' i _ e;exact ⟨v,e1,e2,Rp.kp k.app (show Rp (P++O) H d v from e3)⟩
 ·obtain ⟨d,rfl⟩:=hd i x e1;exact o1.elim
theorem Paired.idx {α β γ:Type} {F:α->β->Prop} {G:γ->β->Prop} {f:α->γ}:∀{l:List α} {m:List β},Paired F l m->(∀(i:Nat) x y,l[i]?=some x->m[i]?=some y->F x y->G (f x) y)->Paired G (l.map f) m
 |_,_,.nil,_=>.nil
 |_,_,.cons h t,k=>.cons (k 0 _ _ rfl rfl h) (Paired.idx t fun i x y e1 e2 r=>k (i+1) x y (by simpa using e1) (by simpa using e2) r)
theorem Paired.get {α β:Type} {F:α->β->Prop}:∀{l:List α} {m:List β},Paired F l m->∀{i:Nat} {y:β},m[i]?=some y->∃x,l[i]?=some x/\F x y
 |_,_,.nil,_,_,h=>by simp at h
 |_,_,.cons h t,0,_,e=>by simp at e; subst e; exact ⟨_,rfl,h⟩
 |_,_,.cons h t,i+1,_,e=>by
  obtain ⟨x,e1,e2⟩:=Paired.get t (i:=i) (by simpa using e);exact ⟨x,by simpa using e1,e2⟩
variable {i:Nat}
theorem si {α β:Type} {f:α->β} {l:List α} (h:(l.map f).Nodup) {j:Nat} {x y:α} (e1:l[i]?=some x) (e2:l[j]?=some y) (e:f x=f y):i=j:=by
 have a:(l.map f)[i]?=some (f x):=by rw [List.getElem?_map,e1]; rfl
 have c:(l.map f)[j]?=some (f y):=by rw [List.getElem?_map,e2]; rfl
 exact (List.getElem?_inj (Lj.mp a).1 h).mp (a.trans (by rw [e]; exact c.symm))
section
variable {Pr:Program} {w:World} {O P:List Addr} {H:Hp} {b a:Addr} {l:By} {kvs:List (D×V)} {t:d7} {ws:List d7} {u v:V}
theorem BI.has (h:BI Pr w O P H b l kvs) (t:d7):(lV kvs (tD t)).isSome=jG l t:=by
 have hp:=h.pr;clear h
 induction hp with
 |nil=>rfl
 |@cons p q ps qs h r ih=>
  by_cases e:p.1=t
  ·have e':q.1=tD t:=by rw [h.1,e]
   simp [lV,jG,List.find?_cons,e,e']
  ·have e':¬q.1=tD t:=fun z=>e (ui (h.1.symm.trans z));have a1:lV (q::qs) (tD t)=lV qs (tD t):=by simp [lV,List.find?_cons,e']
   have a2:jG (p::ps) t=jG ps t:=by simp [jG,e]
   rw [a1,a2]; exact ih
theorem BI.look (h:BI Pr w O P H b l kvs) (hv:lV kvs (tD t)=some v):∃c vs ts,v=.ref c/\H c=some (.lst vs)/\c∈P/\(t,ts)∈l/\vs.length=ts.length:=by
 obtain ⟨i0,e0⟩:=List.mem_iff_getElem?.mp (yF hv);obtain ⟨⟨t',ts⟩,el,eq,c,vs,ec,hc,ha,hl⟩:=Paired.get h.pr e0;have et:t=t':=ui eq;subst et;exact ⟨c,vs,ts,ec,ha,hc,List.mem_of_getElem? el,by rw [<-hl.length]; simp⟩
theorem BI.old (h:BI Pr w O P H b l kvs) (hv:lV kvs (tD t)=some v) (ru:Rp (P++O) H (wD ws) u) :
  ∃c vs,v=.ref c/\H c=some (.lst vs)/\(∃ts,(t,ts)∈l/\vs.length=ts.length)/\Kp P H P (bX H c (.lst (vs++[u])))/\BI Pr w O P (bX H c (.lst (vs++[u]))) b (fu l t ws) kvs:=by
 obtain ⟨i0,e0⟩:=List.mem_iff_getElem?.mp (yF hv);obtain ⟨⟨t',ts⟩,el,eq,c,vs,ec,hc,ha,hl⟩:=Paired.get h.pr e0;have et:t=t':=ui eq;subst et;have hbc:b≠c:=fun z=>by have:=h.at'; rw [z,ha] at this; cases this
 have k:Kp P H P (bX H c (.lst (vs++[u]))):=⟨fun d o hd q=>by rw [aG (show d≠c from fun z=>hd (by rw [z]; exact hc))]; exact q,fun d hd=>.inl hd⟩;refine ⟨c,vs,ec,ha,⟨ts,List.mem_of_getElem? el,by rw [<-hl.length]; simp⟩,k,h.mem,by rw [aG hbc]; exact h.at',?_,h.nd,?_⟩
 ·unfold fu;rw [if_pos (by rw [<-h.has,hv]; rfl)];refine Paired.idx h.pr fun i x y e1 e2 ⟨h1,a,us,h2,h3,h4,h5⟩=>?_;by_cases e:x.1=t
  ·have hi:i=i0:=si h.nk e1 el e;subst hi;rw [el] at e1;cases e1;rw [e0] at e2;cases e2;rw [if_pos rfl];refine ⟨rfl,c,vs++[u],ec,hc,aW,?_⟩;rw [List.map_append];exact (hl.kp k.app).append (.cons (ru.kp k.app) .nil)
  ·rw [if_neg e];have hac:a≠c:=fun z=>by
    have hi:i=i0:=si h.nd e2 e0 (by rw [h2,z]; exact ec.symm);subst hi;rw [el] at e1;cases e1;exact e rfl
   exact ⟨h1,a,us,h2,h3,by rw [aG hac]; exact h4,h5.kp k.app⟩
 ·have:(fu l t ws).map (·.1)=l.map (·.1):=by
   unfold fu;rw [if_pos (by rw [<-h.has,hv]; rfl),List.map_map];refine List.map_congr_left fun x _=>?_;show (if x.1=t then (x.1,x.2++[ws]) else x).1=x.1;split <;> rfl
  rw [this]; exact h.nk
theorem BI.ins (h:BI Pr w O P H b l kvs) (hv:lV kvs (tD t)=none) (ha:H a=none) (dom:∀c,c∈P->∃o,H c=some o) :
  Kp P H (a::P) (bX (bX H a (.lst [])) b (dO Pr w b (kvs++[(tD t,.ref a)])))/\BI Pr w O (a::P) (bX (bX H a (.lst [])) b (dO Pr w b (kvs++[(tD t,.ref a)]))) b (l++[(t,[])]) (kvs++[(tD t,.ref a)]):=by
 have Nj:a≠b:=fun z=>by obtain ⟨o,e⟩:=dom b h.mem; rw [<-z,ha] at e; cases e
 have kk:∀d o,d≠b->H d=some o->bX (bX H a (.lst [])) b (dO Pr w b (kvs++[(tD t,.ref a)])) d=some o:=fun d o hd e=>by
  have hda:d≠a:=fun z=>by rw [z,ha] at e; cases e
  rw [aG hd,aG hda]; exact e
 have k:Kp P H (a::P) (bX (bX H a (.lst [])) b (dO Pr w b (kvs++[(tD t,.ref a)]))):=⟨fun d o hd q=>kk d o (fun z=>hd (by rw [z]; exact h.mem)) q,fun d hd=>by
  rcases Lc.mp hd with z|z
  ·exact .inr (z▸ha)
  ·exact .inl z⟩
 refine ⟨k,KS _ h.mem,aW,?_,?_,?_⟩
 ·refine Paired.snoc (Paired.mapP h.pr fun x y ⟨h1,c,us,h2,h3,h4,h5⟩=>⟨h1,c,us,h2,KS _ h3,kk c _ (fun z=>by have:=h.at'; rw [<-z,h4] at this; cases this) h4,h5.kp k.app⟩) ?_;exact ⟨rfl,a,[],rfl,KU,by rw [aG Nj,aW],.nil⟩
 ·rw [List.map_append,List.nodup_append];refine ⟨h.nd,0x4,fun x hx y hy=>?_⟩;simp only [List.map_cons,List.map_nil,List.mem_singleton] at hy;subst hy;obtain ⟨q,hq,rfl⟩:=Lf.mp hx;obtain ⟨i,ei⟩:=List.mem_iff_getElem?.mp hq;obtain ⟨p,_,_,c,us,e1,hc,h4,_⟩:=Paired.get h.pr ei;intro z;rw [e1] at z;cases z;rw [ha] at h4; cases h4
 ·rw [List.map_append,List.nodup_append];refine ⟨h.nk,0x4,fun x hx y hy=>?_⟩;simp only [List.map_cons,List.map_nil,List.mem_singleton] at hy;obtain ⟨p,hp,rfl⟩:=Lf.mp hx;intro z;rw [hy] at z;have:jG l t=true:=List.any_eq_true.mpr ⟨p,hp,by simpa using z⟩;rw [<-h.has,hv] at this;cases this
theorem Au (h:jG l t=false):fu (l++[(t,[])]) t ws=fu l t ws:=by
 unfold fu;have h1:jG (l++[(t,[])]) t=true:=by unfold jG; rw [List.any_append]; simp
 rw [if_pos h1,h,List.map_append];have h2:(l.map fun x=>if x.1=t then (x.1,x.2++[ws]) else x)=l:=by
  have:∀x∈l,(if x.1=t then (x.1,x.2++[ws]) else x)=x:=fun x hx=>by
   rw [if_neg];intro z;have:jG l t=true:=List.any_eq_true.mpr ⟨x,hx,by simpa using z⟩;rw [h] at this; cases this
  exact (List.map_congr_left this).trans (List.map_id' l)
 rw [h2];simp
theorem BI.same {H':Hp} (h:BI Pr w O P H b l kvs) (s:aF H H'):BI Pr w O P H' b l kvs:=
 ⟨h.mem,s _ _ h.at',Paired.mapP h.pr fun x y ⟨h1,c,us,h2,h3,h4,h5⟩=>⟨h1,c,us,h2,h3,s _ _ h4,h5.kp (.same s)⟩,h.nd,h.nk⟩
theorem BI.told {H0:Hp} (h:BI Pr w O P H b l kvs) (ap:∀a,a∈P->a∉O):RE O [] H0 H (.fz (.dl Pr w l)) (.ref b):=by
 refine ⟨b,b,rfl,ap b h.mem,kvs,h.at',Paired.mapP h.pr fun x y ⟨h1,c,us,h2,h3,h4,h5⟩=>⟨h1,?_⟩⟩;rw [h2];exact .lst (ap c h3) h4 (h5.kp (.sub fun d hd=>KY _ hd))
end
section
variable {X:Cx} {E:XK} {o e f ep:Expr} {apos F' a1 a2 c1 c2 pos q:Pos} {td ty tx:TE} {fp:DS->M DV}
def Kl (P:Program) (w:World) (td ty tx:TE):TE:=fun σ H Q=>td σ H fun x H1=>∃b kvs0,x=.ref b/\H1 b=some (dO P w b kvs0)/\ty σ H1 fun y H2=>tx σ H2 fun z H3=>∃kvs k kb,H3 b=some (dO P w b kvs)/\y=.ref kb/\fB k=true/\k.depth<=6/\RpT (tv H3) k (.ref kb)/\kvs.length<sizeLine /\
 (∀v,lV kvs k=some v->Q v H3)/\(lV kvs k=none->Q z (bX H3 b (dO P w b (kvs++[(k,z)]))))
theorem IG (hu:X.A.units+20<cLine) (ho:PE X o td) (he:PE X e ty) (hf:PE X f tx)
  (base:attributeBase o "setdefault" X.env (eval o X.env)=eval o X.env:=by rfl)
  (few:((backTo F' (starEach [e,f] X.env)).all (fun x=>!x.1)&&(backToKw F' (keywordEach [] X.env)).all (fun x=>x.1.isSome)
   && decide (([e,f]:List Expr).length+([]:List Keyword).length+(if ([]:List Keyword).isEmpty then 0 else 1)<30))=true:=by rfl)
  (line:(apos.endLine==F'.line)=true:=by rfl) (trees:backTo F' (starEach [e,f] X.env)=[(false,eval e X.env),(false,eval f X.env)]:=by rfl) :
  PE X (.Call (.Attribute o "setdefault" apos) [e,f] [] F') (Kl X.prog X.w td ty tx):=by
 intro pins s σ H Q I h;refine wpAny_Call_method base few line PySem.F.plainAttrs_dict PySem.F.slot_dict_setdefault PySem.F.type_dict_setdefault (cG (ho pins s σ H _ I h) fun u s1 zz=>?_);obtain ⟨x,H1,I1,rx,b,kvs0,ex,eb,q1⟩:=zz;subst ex;obtain rfl:u=Value.ref b:=rx;have x0:=yU I1.hok eb;refine ⟨x0.type.1,fun b' z=>?_,?_⟩
 ·cases z; exact x0.type.2
 rw [trees];refine Calls.callWith_builtin rfl (Calls.evalArgs_plain (Calls.spliced_cons (cG (he pins s1 σ H1 _ I1 q1) fun iv s2 ⟨y,H2,I2,ry,q2⟩=>
  Calls.spliced_cons (cG (hf pins s2 σ H2 _ I2 q2) fun fv s3 ⟨z,H3,I3,rz,kvs,k,kb,e3,ey,k1,k2,k3,hl,q3,q4⟩=>Calls.spliced_nil ?_))))
 subst ey;obtain rfl:iv=Value.ref kb:=ry;exact tL hu I3 e3 k1 k2 k3 rz hl (fun v w' s4 ev I4 rv=>⟨v,H3,I4,rv,q3 v ev⟩) fun ev s4 I4=>⟨z,_,I4,rz,q4 ev⟩
def Hx (P:Program) (w:World) (i j:Nat) (fp:DS->M DV):TS:=fun D σ H=>∃O P' δ b t ws l kvs,RS O P' H σ δ/\(∀(i:Nat) (x:DV),δ[i]?=some (some x)->∃d,x=.d d)/\σ[i]?=some (some (.ref b))/\δ[j]?=some (some (.d (tD t)))/\fp δ=some (.ok (.d (wD ws)))/\BI P w O P' H b l kvs/\kvs.length<1000000/\(∀p∈l,p.2.length<1000000) /\
 ∀P2 H2 M6,Kp P' H P2 H2->RS O P2 H2 σ δ->BI P w O P2 H2 b (fu l t ws) M6->D.nx σ H2
theorem HR {j:Nat} (h1:PE X (.Call (.Attribute (.Call (.Attribute o "setdefault" a1) [e,.List [] q] [] c1) "append" a2) [ep] [] c2) (Ku X.K "list" yC (Kl X.prog X.w (ph i) (ph j) (H9 GI)) (FD (tE E fp) GI)))
  (hs:swapsWith (.Call (.Attribute (.Call (.Attribute o "setdefault" a1) [e,.List [] q] [] c1) "append" a2) [ep] [] c2) none pos.line X.env=pure false:=by rfl) :
  PS X (.Expr (.Call (.Attribute (.Call (.Attribute o "setdefault" a1) [e,.List [] q] [] c1) "append" a2) [ep] [] c2) pos) (Hx X.prog X.w i j fp):=PS.mono (mm h1 hs) fun D σ H h=>by
 obtain ⟨O,P,δ,b,t,ws,l,kvs,rs,hd,eb,et,ef,bi,hl1,hl2,nx⟩:=h;obtain ⟨tv',etv,_,rt'⟩:=rs.at' j _ et;obtain ⟨kb,rfl,hT⟩:=RpT.of (show Rp (P++O) H (tD t) tv' from rt');have N2:∀c,c∈P->∃o,H c=some o:=fun c hc=>rs.dom c (KZ _ hc);have sl:∀n,n<1000000->n<sizeLine:=fun n h=>Lq h (by rw [sizeLine_eq]; decide);refine ⟨.ref b,eb,b,kvs,rfl,bi.at',.ref kb,etv,Lo _,fun a ha=>⟨kvs,tD t,kb,bw ha _ _ bi.at',rfl,rfl,Nat.le_of_lt (by decide:1<6),hT.mono (fun c xs q=>bw ha _ _ q),sl _ hl1,fun v ev=>?_,fun ev=>?_⟩⟩
 ·have s0:aF H (bX H a (.lst [])):=bw ha;obtain ⟨c,vs,ts,rfl,hc,cP,hm,hlen⟩:=(bi.same s0).look ev;refine ⟨.inl ⟨rfl,_,eN.of hc⟩,O,P,δ,_,rs.same s0,ef,fun u H2 s2 ru=>?_⟩;have sH:=s0.trans s2;obtain ⟨c',OW,e1,MD,_,k,bi2⟩:=(bi.same sH).old (ws:=ws) (u:=u) ev ru;cases e1;have e2:=s2 _ _ hc;rw [MD] at e2;cases e2;refine ⟨c,vs,u,rfl,rfl,MD,sl _ (by rw [hlen]; exact hl2 _ hm),nx P _ kvs ((Kp.same sH).trans k) ?_ bi2⟩;refine (rs.same sH).moved hd k (fun d Ng=>?_) rs.apart;by_cases z:d=c
  ·exact ⟨_,by rw [z]; exact aW⟩
  ·obtain ⟨ob,q⟩:=N2 d Ng;exact ⟨ob,by rw [aG z]; exact sH _ _ q⟩
 ·obtain ⟨k1,bi1⟩:=bi.ins (t:=t) ev ha N2;have eh:bX (bX H a (.lst [])) b (dO X.prog X.w b (kvs++[(tD t,.ref a)])) a=some (.lst []):=by
   have Nj:a≠b:=fun z=>by obtain ⟨o,e⟩:=N2 b bi.mem; rw [<-z,ha] at e; cases e
   rw [aG Nj,aW]
  have aO:a∉O:=fun z=>by obtain ⟨ob,q⟩:=rs.dom a (KY _ z); rw [ha] at q; cases q
  have dom1:∀d,d∈a::P->∃o,bX (bX H a (.lst [])) b (dO X.prog X.w b (kvs++[(tD t,.ref a)])) d=some o:=fun d Ng=>by
   by_cases zb:d=b
   ·exact ⟨_,by rw [zb]; exact aW⟩
   ·rcases Lc.mp Ng with z|z
    ·exact ⟨_,by rw [z]; exact eh⟩
    ·obtain ⟨ob,q⟩:=N2 d z;have hda:d≠a:=fun z=>by rw [z,ha] at q; cases q
     exact ⟨ob,by rw [aG zb,aG hda]; exact q⟩
  have ap1:∀d,d∈a::P->d∉O:=fun d Ng=>by
   rcases Lc.mp Ng with z|z
   ·rw [z]; exact aO
   ·exact rs.apart d z
  have LC:=rs.moved hd k1 dom1 ap1;have ev1:lV (kvs++[(tD t,V.ref a)]) (tD t)=some (.ref a):=by
   unfold lV at ev ⊢;rw [List.find?_append];cases e2:kvs.find? fun x=>decide (x.1=tD t) with
   |none=>simp
   |some p=>rw [e2] at ev; cases ev
  refine ⟨.inl ⟨rfl,_,eN.of eh⟩,O,a::P,δ,_,LC,ef,fun u H2 s2 ru=>?_⟩;obtain ⟨c',OW,e1,MD,_,k,bi2⟩:=(bi1.same s2).old (ws:=ws) (u:=u) ev1 ru;cases e1;have e2:=s2 _ _ eh;rw [MD] at e2;cases e2;rw [Au (by rw [<-bi.has,ev]; rfl)] at bi2;refine ⟨a,[],u,rfl,rfl,MD,sl 0 0x3,nx (a::P) _ _ ((k1.trans (Kp.same s2)).trans k) ?_ bi2⟩;refine (LC.same s2).moved hd k (fun d Ng=>?_) ap1;by_cases z:d=a
  ·exact ⟨_,by rw [z]; exact aW⟩
  ·obtain ⟨ob,q⟩:=dom1 d Ng;exact ⟨ob,by rw [aG z]; exact s2 _ _ q⟩
end
section
variable {X:Cx} {E:XK} {pos:Pos}
theorem yT {pins:List (Addr×Obj)} {s:Shared} (I:Inv X pins σ H s):(s.heap.objs.size==sysModules)=false:=
 beq_eq_false_iff_ne.mpr (Ne.symm (Lu (Nat.lt_trans 0x3 (I.mod.glob.keeps I.bk).lt)))
theorem Cn {P:Program} {w:World} {T:Addr->List V->Prop} {h:Heap} (hb:(h.objs.size==sysModules)=false):DX P w h.objs.size [] T (h.push { cls:=.type "dict",data:=.dict #[] }):=
 ⟨hb,Lo _,[],.nil,_,#[],0,Lv _ rfl,⟨rfl,rfl,rfl⟩,rfl,rfl,List.nodup_nil⟩
theorem E7:PE X (.Dict [] [] pos) (fun σ H Q=>∀p,H p=none->Q (.ref p) (bX H p (dO X.prog X.w p []))):=fun pins s σ H Q I h=>
 wpAny_Dict_empty ⟨.ref s.heap.objs.size,_,I.laid (a:=s.heap.objs.size) (t':=s.toks) (fun _ _ q=>KW _ q) (K2 _) (Fy (Cn (yT I))),rfl,h _ (I.hok.fresh (K2 _))⟩
theorem Du {f:PyData->Option Int} {U:List PyData}:PE X (.Dict [] [] pos) (fun σ H Q=>∀p,H p=none->Q (.ref p) (bX H p (mO X.prog X.w p f U))):=fun pins s σ H Q I h=>
 wpAny_Dict_empty ⟨.ref s.heap.objs.size,_,I.laid (a:=s.heap.objs.size) (t':=s.toks) (fun _ _ q=>KW _ q) (K2 _) (IM (kvs:=[]) (fun _ h=>nomatch h) (Cn (yT I))),rfl,h _ (I.hok.fresh (K2 _))⟩
end
noncomputable def iJ (l:By) (ws:List d7):By:=(ws.take 3).foldl (fun l t=>fu l t ws) l
noncomputable def lQ (LF:List (List d7)):By:=LF.foldl iJ []
noncomputable def Fz:D->Option d7
 |.tuple [.int a,.int b]=>some (a,b)
 |_=>none
noncomputable def eW:List D->Option (List d7)
 |[]=>some []
 |x::r=>match Fz x,eW r with
  |some t,some ts=>some (t::ts)
  |_,_=>none
noncomputable def CW:D->Option (List d7)
 |.tuple [_,.list ts]=>eW ts
 |_=>none
noncomputable def gO:List D->Option (List (List d7))
 |[]=>some []
 |x::r=>match CW x,gO r with
  |some t,some ts=>some (t::ts)
  |_,_=>none
theorem jr (ts:List d7):eW (ts.map tD)=some ts:=by
 induction ts with
 |nil=>rfl
 |cons t r ih=>rw [List.map_cons,eW,ih]; rfl
theorem nu:∀{xs:List D} {ts:List d7},eW xs=some ts->xs=ts.map tD
 |[],ts,h=>by cases h; rfl
 |x::r,ts,h=>by
  unfold eW at h;split at h
  ·rename_i t us h1 h2;cases h;rw [nu h2,List.map_cons];congr 1;unfold Fz at h1;split at h1
   ·cases h1; rfl
   ·cases h1
  ·cases h
theorem pR:∀{xs:List D} {LF:List (List d7)},gO xs=some LF->LF.length=xs.length/\∀(i:Nat) (d:D),xs[i]?=some d->∃m ws,d=.tuple [m,wD ws]/\LF[i]?=some ws
 |[],LF,h=>by cases h; exact ⟨rfl,fun i d h=>by simp at h⟩
 |x::r,LF,h=>by
  unfold gO at h;split at h
  ·rename_i t us h1 h2;cases h;obtain ⟨hl,hg⟩:=pR h2;refine ⟨by simp [hl],fun i d hd=>?_⟩;cases i with
   |zero=>
    simp at hd;subst hd;unfold CW at h1;split at h1
    ·rename_i m ts;exact ⟨m,t,by rw [nu h1]; rfl,rfl⟩
    ·cases h1
   |succ i=>simpa using hg i d (by simpa using hd)
  ·cases h
theorem IF (ts:List D):sZ ts none (some 3)=ts.take 3:=by
 unfold sZ HT.sIx;simp
 try lia
def uO (l:By) (n:Nat):Prop:=l.length<=n/\∀p∈l,p.2.length<=n
theorem uO.add {l:By} {n:Nat} (h:uO l n) (t:d7) (ws:List d7):uO (fu l t ws) (n+1):=by
 unfold fu;split
 ·refine ⟨by rw [List.length_map]; exact Nat.le_succ_of_le h.1,fun p hp=>?_⟩;obtain ⟨q,hq,rfl⟩:=Lf.mp hp;have:=h.2 q hq;split
  ·simp; lia
  ·lia
 ·refine ⟨by have:=h.1; simp; lia,fun p hp=>?_⟩;rcases Ld.mp hp with hp|hp
  ·exact Nat.le_succ_of_le (h.2 p hp)
  ·simp at hp; subst hp; simp
theorem RS.free {O P:List Addr} {δ:DS} {v:Option V} (r:RS O P H σ δ) (h:δ[i]?=some none):RS O P H (σ.set i v) δ:=by
 have ne:∀(j:Nat) (x:DV),δ[j]?=some (some x)->i≠j:=fun j x e z=>by rw [z,e] at h; cases h
 refine ⟨by rw [List.length_set]; exact r.len,r.dom,r.apart,fun j x e=>?_,fun j m x y v w a e1 e2 e3 e4 o1 o2=>?_⟩
 ·obtain ⟨u,e1,e2⟩:=r.at' j x e;exact ⟨u,by rw [List.getElem?_set_ne (ne j x e)]; exact e1,e2⟩
 ·rw [List.getElem?_set_ne (ne j x e1)] at e3;rw [List.getElem?_set_ne (ne m y e2)] at e4;exact r.one j m x y v w a e1 e2 e3 e4 o1 o2
noncomputable def jI (a c d:Option D):DS:=[a.map .d,none,c.map .d,d.map .d]
theorem yP (a c d:Option D):∀(i:Nat) (x:DV),(jI a c d)[i]?=some (some x)->∃e,x=.d e:=by
 intro i x h;unfold jI at h
 match i,h with
 |0,h=>cases a <;> simp at h; exact ⟨_,h.symm⟩
 |1,h=>simp at h
 |2,h=>cases c <;> simp at h; exact ⟨_,h.symm⟩
 |3,h=>cases d <;> simp at h; exact ⟨_,h.symm⟩
 |i+4,h=>simp at h
section
variable {X:Cx} {G' L':Stmt} {tg1 tg2 it1 it2 r:Expr} {p1 p2 p3:Pos} {fi1 fi2:DS->M (List D)} {fp:DS->M DV}
def KO (P:Program) (w:World):TS:=fun D σ H=>∃O xs LF,RS O [] H σ (jI (some (.list xs)) none none)/\gO xs=some LF/\LF.length<=1000/\∀v H',aF H H'->RE O [] H H' (.fz (.dl P w (lQ LF))) v->D.rt v H'
theorem Cz (hp:PassesOwn (model X.prog X.w) X.A X.env X.xe) (hc:X.calm=true) (hi2:Dl X E0 tg2 it2 fi2) (hg2:PG X tg2 (nR 3)) (h3:PS X L' (Hx X.prog X.w 1 3 fp)) (M3:∀x,foldedSetIterable it2 X.env x=pure x)
  (e2:∀a c m ts,fi2 (jI a (some (.tuple [m,.list ts])) c)=rt (ts.take 3)) (e3:∀a c m ts,fp (jI a (some (.tuple [m,.list ts])) c)=rt (.d (.list ts))) :
  PS X (.For tg2 it2 [L'] [] p2) (fun D σ H=>∃O P b l kvs a m ws c n,RS O P H σ (jI a (some (.tuple [m,wD ws])) c)/\σ[1]?=some (some (.ref b))/\BI X.prog X.w O P H b l kvs/\uO l n/\n+3<1000000 /\
   ∀σ' P' H' Nt c',Kp P H P' H'->RS O P' H' σ' (jI a (some (.tuple [m,wD ws])) c')->σ'[1]?=some (some (.ref b))->BI X.prog X.w O P' H' b (iJ l ws) Nt->uO (iJ l ws) (n+3)->D.nx σ' H'):=
 PS.mono (ub hp hc hi2 hg2 (ic h3) M3) fun D σ H h=>by
  obtain ⟨O,P,b,l,kvs,a,m,ws,c,n,rs,eb,bi,fw,hn,nx⟩:=h;have el:fi2 (jI a (some (.tuple [m,wD ws])) c)=some (.ok ((ws.map tD).take 3)):=e2 a c m (ws.map tD);refine ⟨O,P,_,_,rs,el,fun J H1 s1 it=>?_⟩;have hlen:((ws.map tD).take 3).length<=3:=by rw [List.length_take]; exact Nat.min_le_left _ _
  refine ⟨fun i k σ' H'=>k=((ws.map tD).take 3).length-i/\i<=((ws.map tD).take 3).length/\∃P' l' Nt c',Kp P H1 P' H'/\RS O P' H' σ' (jI a (some (.tuple [m,wD ws])) c')/\σ'[1]?=some (some (.ref b))/\BI X.prog X.w O P' H' b l' Nt/\uO l' (n+i)/\((ws.take 3).drop i).foldl (fun l t=>fu l t ws) l'=iJ l ws,⟨_,rfl,Lo _,P,l,kvs,c,.refl,rs.same s1,eb,bi.same s1,fw,rfl⟩,?_⟩;rintro i k σ' H' ⟨rfl,hi,P',l',Nt,c',kp,LY,eb',Oj,Ot,fl⟩;by_cases LM:i<((ws.map tD).take 3).length
  ·have hw:i<(ws.take 3).length:=by rw [<-List.map_take,List.length_map] at LM; exact LM
   obtain ⟨t,et⟩:∃t,(ws.take 3)[i]?=some t:=⟨_,List.getElem?_eq_getElem hw⟩;have etd:((ws.map tD).take 3)[i]?=some (tD t):=by rw [<-List.map_take,List.getElem?_map,et]; rfl
   obtain ⟨go,yl⟩:=(it i P' H' kp).1 (tD t) etd;refine .inr ⟨go,fun σ2 H2=>∃P2 l2 M6 c2,Kp P H1 P2 H2/\RS O P2 H2 σ2 (jI a (some (.tuple [m,wD ws])) c2)/\σ2[1]?=some (some (.ref b))/\BI X.prog X.w O P2 H2 b l2 M6/\uO l2 (n+(i+1))/\((ws.take 3).drop (i+1)).foldl (fun l t=>fu l t ws) l2=iJ l ws,fun σ2 H2 h=>⟨_,0x1,rfl,LM,h⟩,fun x H2 hy=>?_⟩;obtain ⟨rfl,rx⟩:=yl x H2 hy;have ND:RS O P' H2 (σ'.set 3 (some x)) (jI a (some (.tuple [m,wD ws])) (some (tD t))):=LY.set (i:=3) (x:=.d (tD t)) rx (fun _=>nofun) rfl;refine ⟨O,P',_,b,t,ws,l',Nt,ND,yP _ _ _,by rw [List.getElem?_set_ne 0x3]; exact eb',rfl,e3 _ _ _ _,Oj,?_,fun p hp=>?_,fun P2 H3 M6 k2 rs3 bi3=>⟨P2,_,M6,some (tD t),kp.trans k2,rs3,by rw [List.getElem?_set_ne 0x3]; exact eb',bi3,Ot.add t ws,?_⟩⟩
   ·have h1:=Paired.length Oj.pr;have h2:=Ot.1;lia
   ·have:=Ot.2 p hp; lia
   ·rw [<-fl,List.drop_eq_getElem_cons hw,List.foldl_cons];have:(ws.take 3)[i]=t:=by rw [List.getElem?_eq_getElem hw] at et; exact Lw et
    rw [this]
  ·have Mu:i=((ws.map tD).take 3).length:=by lia
   have hd:(ws.take 3).drop i=[]:=List.drop_eq_nil_of_le (by rw [Mu,<-List.map_take,List.length_map]; exact K2 _);rw [hd] at fl;have fl':l'=iJ l ws:=fl;rw [fl'] at Oj Ot;exact .inl ⟨(it _ P' H' kp).2 0x1,nx σ' P' H' Nt c' ((Kp.same s1).trans kp) LY eb' Oj ⟨by have:=Ot.1; lia,fun p hp=>by have:=Ot.2 p hp; lia⟩⟩
theorem EH (hp:PassesOwn (model X.prog X.w) X.A X.env X.xe) (hc:X.calm=true) (h1:PS X G' (fun D σ H=>∀p,H p=none->D.nx (σ.set 1 (some (.ref p))) (bX H p (dO X.prog X.w p [])))) (hi1:Dl X E0 tg1 it1 fi1) (hg1:PG X tg1 (nR 2)) (hs1:∀x,foldedSetIterable it1 X.env x=pure x)
  (hi2:Dl X E0 tg2 it2 fi2) (hg2:PG X tg2 (nR 3)) (h3:PS X L' (Hx X.prog X.w 1 3 fp)) (M3:∀x,foldedSetIterable it2 X.env x=pure x) (hr:PE X r (ph 1))
  (e1:∀xs c d,fi1 (jI (some (.list xs)) c d)=rt xs) (e2:∀a c m ts,fi2 (jI a (some (.tuple [m,.list ts])) c)=rt (ts.take 3)) (e3:∀a c m ts,fp (jI a (some (.tuple [m,.list ts])) c)=rt (.d (.list ts))) :
  qQ X [G',.For tg1 it1 [.For tg2 it2 [L'] [] p2] [] p1,.Return (some r) p3] (KO X.prog X.w):=
 qQ.mono (gX h1 (gX (ub hp hc hi1 hg1 (ic (Cz hp hc hi2 hg2 h3 M3 e2 e3)) hs1) (ic (Cb hr)))) fun D σ H h=>by
  obtain ⟨O,xs,LF,rs,ep,hz,q⟩:=h;obtain ⟨hlen,hget⟩:=pR ep;intro b hb;have k0:Kp [] H [b] (bX H b (dO X.prog X.w b [])):=⟨fun a o _ e=>bw hb a o e,fun a ha=>by simp at ha; subst ha; exact .inr hb⟩;have ap0:∀a,a∈[b]->a∉O:=fun a ha z=>by
   simp at ha; subst ha
   obtain ⟨o,e⟩:=rs.dom a z;rw [hb] at e; cases e
  have rs0:RS O [b] (bX H b (dO X.prog X.w b [])) (σ.set 1 (some (.ref b))) (jI (some (.list xs)) none none):=(rs.moved (yP _ _ _) k0 (fun a ha=>by simp at ha; subst ha; exact ⟨_,aW⟩) ap0).free rfl;have hl1:1<σ.length:=by rw [rs.len]; show 1<4; decide
  refine ⟨O,[b],_,_,rs0,e1 xs none none,fun J H1 s1 it=>?_⟩;refine ⟨fun i k σ' H'=>k=xs.length-i/\i<=xs.length/\∃P' l kvs c d,Kp [b] H1 P' H'/\RS O P' H' σ' (jI (some (.list xs)) c d)/\σ'[1]?=some (some (.ref b))/\BI X.prog X.w O P' H' b l kvs/\uO l (3*i)/\(LF.drop i).foldl iJ l=lQ LF,
   ⟨_,rfl,Lo _,[b],[],[],none,none,.refl,rs0.same s1,by rw [List.getElem?_set_self hl1],⟨KU,s1 _ _ aW,.nil,List.nodup_nil,List.nodup_nil⟩,⟨Lo _,fun _ h=>nomatch h⟩,rfl⟩,?_⟩
  rintro i k σ' H' ⟨rfl,hi,P',l,kvs,c,d,kp,LY,eb',Oj,Ot,fl⟩;by_cases LM:i<xs.length
  ·obtain ⟨m,ws,ed,ew⟩:=hget i xs[i] (List.getElem?_eq_getElem LM);obtain ⟨go,yl⟩:=(it i P' H' kp).1 xs[i] (List.getElem?_eq_getElem LM);refine .inr ⟨go,fun σ2 H2=>∃P2 l2 M6 c2 d2,Kp [b] H1 P2 H2/\RS O P2 H2 σ2 (jI (some (.list xs)) c2 d2)/\σ2[1]?=some (some (.ref b))/\BI X.prog X.w O P2 H2 b l2 M6/\uO l2 (3*(i+1))/\(LF.drop (i+1)).foldl iJ l2=lQ LF,fun σ2 H2 h=>⟨_,0x1,rfl,LM,h⟩,fun x H2 hy=>?_⟩;obtain ⟨rfl,rx⟩:=yl x H2 hy;rw [ed] at rx;have ND:RS O P' H2 (σ'.set 2 (some x)) (jI (some (.list xs)) (some (.tuple [m,wD ws])) d):=LY.set (i:=2) (x:=.d (.tuple [m,wD ws])) rx (fun _=>nofun) rfl;refine ⟨O,P',b,l,kvs,_,m,ws,d,3*i,ND,by rw [List.getElem?_set_ne 0x3]; exact eb',Oj,Ot,0x1,fun σ3 P3 H3 kvs3 c3 k3 rs3 eb3 bi3 fw3=>⟨P3,_,kvs3,_,c3,kp.trans k3,rs3,eb3,bi3,fw3,?_⟩⟩;have hw:i<LF.length:=by lia
   rw [<-fl,List.drop_eq_getElem_cons hw,List.foldl_cons];have:LF[i]=ws:=by rw [List.getElem?_eq_getElem hw] at ew; exact Lw ew
   rw [this]
  ·have Mu:i=xs.length:=by lia
   have hd:LF.drop i=[]:=List.drop_eq_nil_of_le 0x1;rw [hd] at fl;have fl':l=lQ LF:=fl;rw [fl'] at Oj;refine .inl ⟨(it _ P' H' kp).2 0x1,.ref b,eb',?_⟩;have kk:=(k0.trans (Kp.same s1)).trans kp;exact q _ H' (fun a o e=>kk.keep a o 0x4 e) (Oj.told LY.apart)
end
end L3
namespace LW
open PySem PySem.Spec L2 L3
noncomputable def jl (h:List Tl) (j:Int) (w:List Tl):Int:=j-((w.length:Int)-((h.length:Int)-((av h w).length:Int)))
noncomputable def bf (h:List Tl):Int:=(h.map (·.1)).sum
theorem eK (h a b:List Tl):av h (a++b)=av (av h a) b:=List.foldl_append
variable {a b:List Tl}
theorem kL (p:a.Perm b):∀h:List Tl,av h a=av h b:=by
 induction p with
 |nil=>intro h; rfl
 |cons x _ ih=>intro h; exact ih (h.erase x)
 |swap x y l=>intro h; show av ((h.erase y).erase x) l=av ((h.erase x).erase y) l; rw [List.erase_comm]
 |trans _ _ ih1 ih2=>intro h; exact (ih1 h).trans (ih2 h)
theorem kf (w h:List Tl):(av h w).length<=h.length/\h.length<=(av h w).length+w.length:=by
 induction w generalizing h with
 |nil=>exact ⟨K2 _,by show h.length<=h.length+0; lia⟩
 |cons x r ih=>
  have h1:=ih (h.erase x);have h2:=List.length_erase (a:=x) (l:=h);show (av (h.erase x) r).length<=_/\_<=(av (h.erase x) r).length+(x::r).length;rw [List.length_cons];split at h2 <;> lia
theorem iL (h:List Tl) (j:Int) (a b:List Tl):jl h j (a++b)=jl (av h a) (jl h j a) b:=by
 unfold jl;rw [eK,List.length_append];lia
theorem sj (h:List Tl) (j:Int) (w:List Tl):jl h j w<=j:=by
 have:=kf w h;unfold jl; lia
theorem tZ (h:List Tl) (j:Int) (a b:List Tl):jl h j (a++b)<=jl h j a:=by
 rw [iL]; exact sj _ _ _
theorem uz (p:a.Perm b) (h:List Tl) (j:Int):jl h j a=jl h j b:=by
 unfold jl; rw [kL p,p.length_eq]
variable {t:Tl} {w:List Tl}
theorem vo (hw:t∉w) (r:List Tl):av (t::r) w=t::av r w:=by
 induction w generalizing r with
 |nil=>rfl
 |cons x w ih=>
  have hx:t≠x:=fun e=>hw (e▸KU);show av ((t::r).erase x) w=t::av (r.erase x) w;rw [List.erase_cons_tail (by simpa using hx),ih (fun h=>hw (KS _ h))]
theorem zv:∀{h:List Tl},(∀x∈w,x∉h)->av h w=h:=by
 induction w with
 |nil=>intro h _; rfl
 |cons x w ih=>
  intro h hx;show av (h.erase x) w=h;rw [List.erase_of_not_mem (hx x KU)];exact ih fun y hy=>hx y (KS _ hy)
noncomputable def Dn:List Tl->List Tl
 |[]=>[]
 |x::r=>if x∈Dn r then Dn r else x::Dn r
theorem mM:∀{l:List Tl} {x:Tl},x∈l->x∈Dn l
 |y::r,x,h=>by
  unfold Dn;split
  ·rename_i hy;rcases Lc.mp h with e|h
   ·rw [e]; exact hy
   ·exact mM h
  ·rcases Lc.mp h with e|h
   ·rw [e]; exact KU
   ·exact KS _ (mM h)
theorem mX:∀l:List Tl,(Dn l).Nodup
 |[]=>List.nodup_nil
 |x::r=>by
  unfold Dn;split
  ·exact mX r
  ·rename_i h; exact List.nodup_cons.mpr ⟨h,mX r⟩
theorem Bv {f g:Tl->Int}:∀{ks:List Tl},(∀p∈ks,f p<=g p)->(ks.map f).sum<=(ks.map g).sum
 |[],_=>Int.le_refl _
 |x::r,h=>by
  have h1:=h x KU;have h2:=Bv (ks:=r) fun p hp=>h p (KS _ hp);simp only [List.map_cons,List.sum_cons];lia
variable {h:List Tl}
theorem C5 {f:Tl->Int} {u v:List Tl} (hf:∀p,p∈h->0<=f p) (hfa:∀p,p∈a->0<=f p) (hfb:∀p,p∈b->0<=f p) (hc:∀p,h.count p-w.count p<=(a.count p-u.count p)+(b.count p-v.count p)) :
  ((av h w).map f).sum<=((av a u).map f).sum+((av b v).map f).sum:=by
 have hn:=mX (h++(a++b));have m1:∀x∈av h w,x∈Dn (h++(a++b)):=fun x hx=>mM (KZ _ ((cZ w h).subset hx));have m2:∀x∈av a u,x∈Dn (h++(a++b)):=fun x hx=>mM (KY _ (KZ _ ((cZ u a).subset hx)));have m3:∀x∈av b v,x∈Dn (h++(a++b)):=fun x hx=>mM (KY _ (KY _ ((cZ v b).subset hx)));rw [Dv f hn _ m1,Dv f hn _ m2,Dv f hn _ m3,<-tm];refine Bv fun p _=>?_;rw [jm,jm,jm];have hp:=hc p;by_cases hz:0<=f p
 ·rw [<-Int.add_mul];exact Int.mul_le_mul_of_nonneg_right 0x1 hz
 ·have z1:h.count p=0:=List.count_eq_zero.mpr fun hm=>hz (hf p hm);have z2:a.count p=0:=List.count_eq_zero.mpr fun hm=>hz (hfa p hm);have z3:b.count p=0:=List.count_eq_zero.mpr fun hm=>hz (hfb p hm);rw [z1,z2,z3]; simp
theorem tR (l:List Tl):(l.map fun _=>(1:Int)).sum=(l.length:Int):=by
 induction l with
 |nil=>rfl
 |cons x r ih=>simp only [List.map_cons,List.sum_cons,List.length_cons,ih]; lia
theorem DB {u v:List Tl} (hp:h.Perm (a++b)) (hf:∀p∈h,0<=p.1) (j k:Int):bf (av h (u++v))<=bf (av a u)+bf (av b v)/\jl a j u+jl b k v<=jl h (j+k) (u++v):=by
 have hc:∀p,h.count p-(u++v).count p<=(a.count p-u.count p)+(b.count p-v.count p):=fun p=>by
  rw [hp.count_eq,List.count_append,List.count_append]; lia
 have ha:∀p,p∈a->p∈h:=fun p h'=>hp.mem_iff.mpr (KZ _ h');have hb:∀p,p∈b->p∈h:=fun p h'=>hp.mem_iff.mpr (KY _ h');refine ⟨C5 hf (fun p h'=>hf p (ha p h')) (fun p h'=>hf p (hb p h')) hc,?_⟩;have:=C5 (f:=fun _=>1) (fun _ _=>0x3) (fun _ _=>0x3) (fun _ _=>0x3) hc;rw [tR,tR,tR] at this;have hl:=hp.length_eq;rw [List.length_append] at hl;unfold jl;rw [List.length_append];lia
variable {r:List Tl}
theorem EM (hf:∀p∈t::r,0<=p.1) (j:Int):bf (av (t::r) w)<=t.1+bf (av r w)/\jl r j w<=jl (t::r) j w:=by
 have:=DB (h:=t::r) (a:=[t]) (u:=[]) (b:=r) (v:=w) (List.Perm.refl _) hf 0 j;have e:bf (av [t] [])=t.1:=by show t.1+0=t.1; lia
 have e2:jl [t] 0 []=0:=by unfold jl; show (0:Int)-(0-(1-1))=0; lia
 rw [e,e2] at this;simpa using this
theorem nW (hf:∀p∈h,0<=p.1):0<=bf h:=by
 induction h with
 |nil=>exact Int.le_refl _
 |cons t r ih=>
  have h1:=hf t KU;have h2:=ih fun p hp=>hf p (KS _ hp);show 0<=t.1+bf r;lia
def v3 (a b:Tl):Prop:=a.1<b.1\/a.1=b.1/\a.2<=b.2
def GR (a b:Tl):Prop:=a.1<b.1\/a.1=b.1/\a.2<b.2
theorem ER {a b:Tl} (h:GR a b) (h':v3 b a):False:=by unfold GR at h; unfold v3 at h'; lia
noncomputable def fy (l:By) (h:List Tl) (j:Int):List (List Tl×Int):=match h with
 |[]=>[]
 |t::r=>((c8 l t).map fun w=>(av (t::r) w,jl (t::r) j w)).filter fun q=>decide (0<=q.2)
noncomputable def LL (l:By):Nat->List Tl->Int->Int
 |0,_,_=>0
 |_+1,[],_=>0
 |n+1,t::r,j=>AL ((t.1+LL l n r j)::(fy l (t::r) j).map fun q=>LL l n q.1 q.2)
structure Play (AM:List (List Tl)) (h:List Tl) (j:Int) (Ws:List (List Tl)):Prop where
 mem:∀w∈Ws,w∈AM
 jok:0<=jl h j Ws.flatten
theorem CJ {l:By} {j:Int} (hw:w∈c8 l t) (hj:0<=jl (t::r) j w):(av (t::r) w,jl (t::r) j w)∈fy l (t::r) j:=
 Li.mpr ⟨Lf.mpr ⟨w,hw,rfl⟩,by simpa using hj⟩
theorem oC {l:By} {j:Int} {q:List Tl×Int} (h:q∈fy l (t::r) j):∃w∈c8 l t,q=(av (t::r) w,jl (t::r) j w)/\0<=jl (t::r) j w:=by
 obtain ⟨h1,h2⟩:=Li.mp h;obtain ⟨w,hw,rfl⟩:=Lf.mp h1;exact ⟨w,hw,rfl,by simpa using h2⟩
theorem iT (h:t∈w):(av (t::r) w).length<=r.length:=by
 obtain ⟨a,b,rfl⟩:=List.append_of_mem h;have p:(a++t::b).Perm (t::(a++b)):=List.perm_middle;rw [kL p];show (av ((t::r).erase t) (a++b)).length<=r.length;rw [List.erase_cons_head];exact (kf _ _).1
theorem wO {l:By} {AM:List (List Tl)} (hs:∀w∈AM,w.Pairwise GR) (bg:∀t w,w∈AM->t∈w.take 3->w∈c8 l t):∀(n:Nat) (h:List Tl) (j:Int) (Ws:List (List Tl)),h.length<=n->h.Pairwise v3->(∀p∈h,0<=p.1)->j<=2->Play AM h j Ws->LL l n h j<=bf (av h Ws.flatten)
 |0,h,j,Ws,hl,_,hf,_,_=>by
  have:h=[]:=Lz 0x1;subst this;exact nW fun p hp=>hf p ((cZ _ _).subset hp)
 |n+1,[],j,Ws,hl,_,hf,_,_=>nW fun p hp=>hf p ((cZ _ _).subset hp)
 |n+1,t::r,j,Ws,hl,ho,hf,hj,pl=>by
  rw [List.length_cons] at hl;rw [List.pairwise_cons] at ho;by_cases ht:t∈Ws.flatten
  ·obtain ⟨w,hw,htw⟩:=List.mem_flatten.mp ht;obtain ⟨A,B,rfl⟩:=List.append_of_mem hw;have pw:(A++w::B).flatten.Perm (w++(A++B).flatten):=by
    rw [List.flatten_append,List.flatten_cons,List.flatten_append,<-List.append_assoc,<-List.append_assoc];exact (List.perm_append_comm).append_right _
   have hj0:0<=jl (t::r) j (w++(A++B).flatten):=by rw [<-uz pw]; exact pl.jok
   have hjw:0<=jl (t::r) j w:=Ly hj0 (tZ _ _ _ _);have hwA:w∈AM:=pl.mem w 0x4;have h3:t∈w.take 3:=by
    obtain ⟨a,b,rfl⟩:=List.append_of_mem htw;have M8:=hs _ hwA;rw [List.pairwise_append] at M8;have out:∀x∈a,x∉t::r:=fun x hx hm=>by
     have h1:=M8.2.2 x hx t KU;rcases Lc.mp hm with e|hm
     ·subst e; unfold GR at h1; lia
     ·exact ER h1 (ho.1 x hm)
    have e1:av (t::r) (a++t::b)=av (t::r) (t::b):=by rw [eK,zv out]
    have e2:=kf (t::b) (t::r);unfold jl at hjw;rw [e1,List.length_append] at hjw;have hla:a.length<=2:=by lia
    rw [List.take_append];refine KY _ ?_;obtain ⟨k,hk⟩:∃k,3-a.length=k+1:=⟨2-a.length,0x1⟩;rw [hk,List.take_succ_cons];exact KU
   have hm:=CJ (l:=l) (bg t w hwA h3) hjw;have hle:LL l (n+1) (t::r) j<=LL l n (av (t::r) w) (jl (t::r) j w):=tX (KS _ (Lf.mpr ⟨_,hm,rfl⟩));have LR:=cZ w (t::r);have ih:=wO hs bg n (av (t::r) w) (jl (t::r) j w) (A++B) (Lp (iT htw) 0x1) ((Ll.mpr ho).sublist LR) (fun p hp=>hf p (LR.subset hp)) (Ly (sj _ _ _) hj) ⟨fun x hx=>pl.mem x (by rcases Ld.mp hx with h|h <;> simp [h]),by rw [<-iL]; exact hj0⟩;rw [kL pw,eK];lia
  ·rw [vo ht];have e1:jl r j Ws.flatten=jl (t::r) j Ws.flatten:=by unfold jl; rw [vo ht,List.length_cons,List.length_cons]; lia
   have ih:=wO hs bg n r j Ws 0x1 ho.2 (fun p hp=>hf p (KS _ hp)) hj ⟨pl.mem,by rw [e1]; exact pl.jok⟩;have hle:LL l (n+1) (t::r) j<=t.1+LL l n r j:=tX KU;show _<=t.1+bf (av r Ws.flatten);lia
theorem xl {l:By} {AM:List (List Tl)} (bs:∀t w,w∈c8 l t->w∈AM/\t∈w):∀(n:Nat) (h:List Tl) (j:Int),h.length<=n->(∀p∈h,0<=p.1)->0<=j->∃Ws,Play AM h j Ws/\bf (av h Ws.flatten)<=LL l n h j
 |0,h,j,hl,_,hj=>by
  have:h=[]:=Lz 0x1;subst this;exact ⟨[],⟨fun _ h=>(nomatch h),by unfold jl; show 0<=j-(0-(0-0)); lia⟩,Int.le_refl _⟩
 |n+1,[],j,hl,_,hj=>⟨[],⟨fun _ h=>(nomatch h),by unfold jl; show 0<=j-(0-(0-0)); lia⟩,Int.le_refl _⟩
 |n+1,t::r,j,hl,hf,hj=>by
  rw [List.length_cons] at hl;have hmem:LL l (n+1) (t::r) j∈(t.1+LL l n r j)::(fy l (t::r) j).map fun q=>LL l n q.1 q.2:=oM 0x4;rcases Lc.mp hmem with e|h
  ·obtain ⟨Ws,pl,hle⟩:=xl bs n r j 0x1 (fun p hp=>hf p (KS _ hp)) hj;obtain ⟨c1,c2⟩:=EM (t:=t) (r:=r) (w:=Ws.flatten) hf j;exact ⟨Ws,⟨pl.mem,Ly pl.jok c2⟩,0x1⟩
  ·obtain ⟨q,hq,e⟩:=Lf.mp h;obtain ⟨w,hw,rfl,hjw⟩:=oC hq;obtain ⟨hwA,htw⟩:=bs t w hw;obtain ⟨Ws,pl,hle⟩:=xl bs n (av (t::r) w) (jl (t::r) j w) (Lp (iT htw) 0x1) (fun p hp=>hf p ((cZ _ _).subset hp)) hjw;refine ⟨w::Ws,⟨fun x hx=>?_,?_⟩,?_⟩
   ·rcases Lc.mp hx with e|h
    ·rw [e]; exact hwA
    ·exact pl.mem x h
   ·rw [List.flatten_cons,iL]; exact pl.jok
   ·rw [List.flatten_cons,eK,<-e]; exact hle
section
variable (m c:Int) (ps:List (Int×Int)) (cell:Int)
theorem HY (δ:DS) (i:Nat) (hi:δ[i]?=some (some (.d (.list (ps.map pr))))):aN cy (aa (af i) ai) δ=rt (.d (.int (ps.length:Int))):=by
 have hv:af i δ=rt (.d (.list (ps.map pr))):=by unfold af; rw [hi]; rfl
 rw [cm (bj hv)];exact f6 ps
end
end LW
namespace L3
open PySem PySem.Spec L2
open PyProof.Rows hiding St
noncomputable def uf:Bool->Keyed->Array Keyed->Nat->Nat->Nat->StateT SortSt Sem (Option Nat):=sortPriv% PySem.Builtin.gallop
def oj (M:Model) (A:Around) (E:Value->Shared->Prop) (s:Shared) (κ:SortKind) (key:Keyed->List Int) (P:Keyed->Prop):Prop:=
 ∀(x y:Keyed) (st:SortSt) (Q:Option Bool->SortSt->Prop),kindOf st=κ->P x->P y->Q (some (ll (key x) (key y))) st->wpS M A E s (lt' x y) Q st
noncomputable def Ka (key:Keyed->List Int) (left:Bool) (k x:Keyed):Bool:=if left=true then ll (key x) (key k) else !ll (key k) (key x)
section
variable {M:Model} {A:Around} {E:Value->Shared->Prop} {s:Shared} {κ:SortKind} {key:Keyed->List Int} {P:Keyed->Prop}
theorem a9 {arr:Array Keyed} {i:Nat} {x:Keyed} {st:SortSt} {Q:Keyed->SortSt->Prop} (h:arr[i]?=some x) (hq:Q x st):wpS M A E s (elem' arr i) Q st:=by
 rw [elem'_eq,h]; exact wpS_pure hq
theorem rZ (hA:oj M A E s κ key P) {left:Bool} {k:Keyed} {arr:Array Keyed} {base n hint:Nat} {st:SortSt} {Q:Option Nat->SortSt->Prop} (hk:kindOf st=κ)
  (hP:∀i,i<n->∃x,arr[base+i]?=some x/\P x) (hPk:P k) (hh:hint<n) (b:Nat->Bool) (hb:∀i x,i<n->arr[base+i]?=some x->b i=Ka key left k x)
  (mono:∀i j,i<=j->j<n->b j=true->b i=true)
  (h:∀r,r<=n->(∀i,i<r->b i=true)->(∀i,r<=i->i<n->b i=false)->Q (some r) st):wpS M A E s (uf left k arr base n hint) Q st:=by
 have ask:∀(i:Nat) (Q':Option Bool->SortSt->Prop),i<n->Q' (some (b i)) st->wpS M A E s (do let x <-elem' arr (base+i); if left=true then lt' x k else (do let r <-lt' k x; pure (r.map fun x=>!x))) Q' st:=fun i Q' hi hq=>by
  obtain ⟨x,ex,px⟩:=hP i hi;rw [hb i x hi ex] at hq;refine wpS_bind (a9 ex ?_);cases left with
  |true=>exact hA x k st _ hk px hPk hq
  |false=>exact wpS_bind (hA k x st _ hk hPk px (wpS_pure hq))
 refine wpS_bind (ask hint _ hh ?_);dsimp only;cases c:b hint with
 |true=>
  rw [if_pos rfl];refine wpS_bind (wpS_mono (wpS_forRange (I:=fun x c D'=>D'=st/\∃l o,c=(none,l,o)/\l<o/\x<=l/\l<n-hint/\b (hint+l)=true)
   (Q:=fun c D'=>D'=st/\∃l o,c=(none,l,o)/\l<o/\l<n-hint/\b (hint+l)=true/\(o>=n-hint\/(hint+o<n/\b (hint+o)=false))) ?_ ?_ ⟨rfl,0,1,rfl,0x1,0x1,0x1,c⟩) ?_)
  ·rintro x c D' _ hx ⟨rfl,l,o,rfl,h1,h2,h3,h4⟩;dsimp only;by_cases ho:o>=n-hint
   ·rw [if_pos ho]; exact wpS_pure ⟨rfl,l,o,rfl,h1,h3,h4,.inl ho⟩
   ·rw [if_neg ho];refine wpS_bind (ask (hint+o) _ 0x1 ?_);dsimp only;cases c2:b (hint+o) with
    |true=>exact wpS_pure ⟨rfl,o,2*o+1,rfl,0x1,0x1,0x1,c2⟩
    |false=>exact wpS_pure ⟨rfl,l,o,rfl,h1,h3,h4,.inr ⟨0x1,c2⟩⟩
  ·rintro c D' ⟨rfl,l,o,rfl,h1,h2,h3,h4⟩;exact absurd h2 0x1
  ·rintro c D' ⟨rfl,l,o,rfl,h1,h2,h3,h4⟩;dsimp only;have lo1:∀i,i<hint+l+1->b i=true:=fun i hi=>mono i (hint+l) 0x1 0x1 h3;have hi1:∀i,hint+min o (n-hint)<=i->i<n->b i=false:=fun i q1 q2=>by
    rcases h4 with h4|⟨h4,h5⟩
    ·lia
    ·cases c3:b i with
     |false=>rfl
     |true=>rw [mono (hint+o) i 0x1 q2 c3] at h5; cases h5
   have lh:hint+l+1<=hint+min o (n-hint):=by lia
   have hn:hint+min o (n-hint)<=n:=by lia
   generalize hint+l+1=lo at *;generalize hint+min o (n-hint)=hi at *;clear h1 h2 h3 h4;refine wpS_bind (wpS_mono (wpS_forRange (I:=fun x c Mb=>Mb=D'/\∃l o,c=(none,l,o)/\l<=o/\o<=n/\o-l<=n-x/\(∀i,i<l->b i=true)/\∀i,o<=i->i<n->b i=false)
    (Q:=fun c Mb=>Mb=D'/\∃l,c=(none,l,l)/\l<=n/\(∀i,i<l->b i=true)/\∀i,l<=i->i<n->b i=false) ?_ ?_ ⟨rfl,lo,hi,rfl,lh,hn,0x1,lo1,hi1⟩) ?_)
   ·rintro x c Mb _ hx ⟨rfl,l,o,rfl,q1,q2,q3,q4,q5⟩;dsimp only;by_cases Ni:l>=o
    ·rw [if_pos Ni];have:l=o:=by lia
     subst this;exact wpS_pure ⟨rfl,l,rfl,q2,q4,q5⟩
    ·rw [if_neg Ni];refine wpS_bind (ask (l+(o-l) / 2) _ 0x1 ?_);dsimp only;cases c2:b (l+(o-l) / 2) with
     |true=>exact wpS_pure ⟨rfl,_,_,rfl,0x1,q2,0x1,fun i hi=>mono i _ 0x1 0x1 c2,q5⟩
     |false=>
      refine wpS_pure ⟨rfl,_,_,rfl,0x1,0x1,0x1,q4,fun i u1 u2=>?_⟩;cases c3:b i with
      |false=>rfl
      |true=>rw [mono _ i u1 u2 c3] at c2; cases c2
   ·rintro c Mb ⟨rfl,l,o,rfl,q1,q2,q3,q4,q5⟩;have:l=o:=by lia
    subst this;exact ⟨rfl,l,rfl,q2,q4,q5⟩
   ·rintro c Mb ⟨rfl,l,rfl,q2,q4,q5⟩;exact wpS_pure (h l q2 q4 q5)
 |false=>
  rw [if_neg 0x4];refine wpS_bind (wpS_mono (wpS_forRange (I:=fun x c D'=>D'=st/\∃l o,c=(none,l,o)/\l<o/\x<=l/\l<=hint/\b (hint-l)=false)
   (Q:=fun c D'=>D'=st/\∃l o,c=(none,l,o)/\l<o/\l<=hint/\b (hint-l)=false/\(o>=hint+1\/(o<=hint/\b (hint-o)=true))) ?_ ?_ ⟨rfl,0,1,rfl,0x1,0x1,0x1,c⟩) ?_)
  ·rintro x c D' _ hx ⟨rfl,l,o,rfl,h1,h2,h3,h4⟩;dsimp only;by_cases ho:o>=hint+1
   ·rw [if_pos ho]; exact wpS_pure ⟨rfl,l,o,rfl,h1,h3,h4,.inl ho⟩
   ·rw [if_neg ho];refine wpS_bind (ask (hint-o) _ 0x1 ?_);dsimp only;cases c2:b (hint-o) with
    |true=>exact wpS_pure ⟨rfl,l,o,rfl,h1,h3,h4,.inr ⟨0x1,c2⟩⟩
    |false=>exact wpS_pure ⟨rfl,o,2*o+1,rfl,0x1,0x1,0x1,c2⟩
  ·rintro c D' ⟨rfl,l,o,rfl,h1,h2,h3,h4⟩;exact absurd h2 0x1
  ·rintro c D' ⟨rfl,l,o,rfl,h1,h2,h3,h4⟩;dsimp only;have lo1:∀i,i<hint+1-min o (hint+1)->b i=true:=fun i hi=>by
    rcases h4 with h4|⟨h4,h5⟩
    ·lia
    ·exact mono i (hint-o) 0x1 0x1 h5
   have hi1:∀i,hint-l<=i->i<n->b i=false:=fun i q1 q2=>by
    cases c3:b i with
    |false=>rfl
    |true=>rw [mono (hint-l) i 0x1 q2 c3] at h3; cases h3
   have lh:hint+1-min o (hint+1)<=hint-l:=by lia
   have hn:hint-l<=n:=by lia
   generalize hint+1-min o (hint+1)=lo at *;generalize hint-l=hi at *;clear h1 h2 h3 h4;refine wpS_bind (wpS_mono (wpS_forRange (I:=fun x c Mb=>Mb=D'/\∃l o,c=(none,l,o)/\l<=o/\o<=n/\o-l<=n-x/\(∀i,i<l->b i=true)/\∀i,o<=i->i<n->b i=false)
    (Q:=fun c Mb=>Mb=D'/\∃l,c=(none,l,l)/\l<=n/\(∀i,i<l->b i=true)/\∀i,l<=i->i<n->b i=false) ?_ ?_ ⟨rfl,lo,hi,rfl,lh,hn,0x1,lo1,hi1⟩) ?_)
   ·rintro x c Mb _ hx ⟨rfl,l,o,rfl,q1,q2,q3,q4,q5⟩;dsimp only;by_cases Ni:l>=o
    ·rw [if_pos Ni];have:l=o:=by lia
     subst this;exact wpS_pure ⟨rfl,l,rfl,q2,q4,q5⟩
    ·rw [if_neg Ni];refine wpS_bind (ask (l+(o-l) / 2) _ 0x1 ?_);dsimp only;cases c2:b (l+(o-l) / 2) with
     |true=>exact wpS_pure ⟨rfl,_,_,rfl,0x1,q2,0x1,fun i hi=>mono i _ 0x1 0x1 c2,q5⟩
     |false=>
      refine wpS_pure ⟨rfl,_,_,rfl,0x1,0x1,0x1,q4,fun i u1 u2=>?_⟩;cases c3:b i with
      |false=>rfl
      |true=>rw [mono _ i u1 u2 c3] at c2; cases c2
   ·rintro c Mb ⟨rfl,l,o,rfl,q1,q2,q3,q4,q5⟩;have:l=o:=by lia
    subst this;exact ⟨rfl,l,rfl,q2,q4,q5⟩
   ·rintro c Mb ⟨rfl,l,rfl,q2,q4,q5⟩;exact wpS_pure (h l q2 q4 q5)
end
def Le (key:Keyed->List Int) (x y:Keyed):Prop:=ll (key y) (key x)=false
section
variable {key:Keyed->List Int}
theorem Le.refl (x:Keyed):Le key x x:=eH _
theorem Le.trans {x y z:Keyed} (h1:Le key x y) (h2:Le key y z):Le key x z:=gQ h1 h2
variable {x y:Keyed}
theorem Le.of_lt (h:ll (key x) (key y)=true):Le key x y:=fQ h
def fq (key:Keyed->List Int) (arr:Array Keyed) (lo hi:Nat):Prop:=∀i j x y,lo<=i->i<=j->j<hi->arr[i]?=some x->arr[j]?=some y->Le key x y
variable {arr:Array Keyed}
theorem kh:arr.toList.Pairwise (Le key)↔fq key arr 0 arr.size:=by
 constructor
 ·intro h i j x y _ Oh hj ex ey;rcases Nat.lt_or_ge i j with LM|hge
  ·obtain ⟨Og,rfl⟩:=Ln.mp ex;obtain ⟨NV,rfl⟩:=Ln.mp ey;have:=List.pairwise_iff_getElem.mp h i j (by simpa using Og) (by simpa using NV) LM;simpa using this
  ·have:i=j:=by lia
   subst this;rw [ex] at ey; cases ey; exact Le.refl _
 ·intro h;refine List.pairwise_iff_getElem.mpr fun i j hi hj Oh=>?_;have Og:i<arr.size:=by simpa using hi
  have NV:j<arr.size:=by simpa using hj
  exact h i j _ _ (Lo _) (Nat.le_of_lt Oh) NV (by simp [Og]) (by simp [NV])
variable {i:Nat}
theorem dc (h:i<arr.size):∃x,arr[i]?=some x/\x∈arr.toList:=⟨arr[i],by simp [h],0x4⟩
theorem i5 (h:y∈arr.toList.drop i):∃j,i<=j/\j<arr.size/\arr[j]?=some y:=by
 obtain ⟨j,hj,rfl⟩:=List.getElem_of_mem h;simp at hj;refine ⟨i+j,0x1,0x1,?_⟩;have:i+j<arr.size:=by lia
 simp [this]
theorem iG (h:y∈arr.toList.take i):∃j,j<i/\j<arr.size/\arr[j]?=some y:=by
 obtain ⟨j,hj,rfl⟩:=List.getElem_of_mem h;simp at hj;refine ⟨j,0x1,0x1,?_⟩;have:j<arr.size:=by lia
 simp [this]
variable {k:Nat}
theorem eA (h:y∈(arr.extract i k).toList):∃j,i<=j/\j<k/\j<arr.size/\arr[j]?=some y:=by
 obtain ⟨j,hj,rfl⟩:=List.getElem_of_mem h;simp at hj;refine ⟨i+j,0x1,0x1,0x1,?_⟩;have:i+j<arr.size:=by lia
 simp [this]
theorem oE:(arr.extract i).toList=arr.toList.drop i:=by
 rw [Array.toList_extract,List.extract_eq_take_drop];exact List.take_of_length_le 0x4
theorem kv:(arr.extract 0 i).toList=arr.toList.take i:=by
 rw [Array.toList_extract,List.extract_eq_take_drop];rfl
theorem yc (h:arr[i]?=some x):arr.toList.drop i=x::arr.toList.drop (i+1):=by
 obtain ⟨hi,rfl⟩:=Ln.mp h;have Og:i<arr.toList.length:=by simpa using hi
 rw [List.drop_eq_getElem_cons Og];simp
theorem yx (h:arr[i]?=some x):arr.toList.take (i+1)=arr.toList.take i++[x]:=by
 obtain ⟨hi,rfl⟩:=Ln.mp h;have Og:i<arr.toList.length:=by simpa using hi
 rw [List.take_succ_eq_append_getElem Og];simp
theorem pL:arr.toList.drop i=(arr.extract i (i+k)).toList++arr.toList.drop (i+k):=by
 rw [Array.toList_extract,List.extract_eq_take_drop,<-List.drop_drop,show i+k-i=k by lia,List.take_append_drop]
theorem jW (h:i<=k):arr.toList.take k=arr.toList.take i++(arr.extract i k).toList:=by
 rw [Array.toList_extract,List.extract_eq_take_drop]
 conv=>lhs; rw [show k=i+(k-i) by lia,List.take_add]
structure MI (key:Keyed->List Int) (la lb o ra rb:List Keyed):Prop where
 perm:(o++(ra++rb)).Perm (la++lb)
 so:o.Pairwise (Le key)
 sa:ra.Pairwise (Le key)
 sb:rb.Pairwise (Le key)
 oa:∀x∈o,∀y∈ra,Le key x y
 ob:∀x∈o,∀y∈rb,Le key x y
def oP (key:Keyed->List Int) (la lb r:List Keyed):Prop:=r.Perm (la++lb)/\r.Pairwise (Le key)
variable {la lb o ra rb:List Keyed}
theorem MI.a {c:List Keyed} (h:MI key la lb o (c++ra) rb) (hc:∀x∈c,∀y∈rb,Le key x y):MI key la lb (o++c) ra rb:=by
 obtain ⟨p,so,sa,sb,oa,ob⟩:=h;obtain ⟨s1,s2,s3⟩:=Lm.mp sa;refine ⟨?_,Lm.mpr ⟨so,s1,fun x hx y hy=>oa x hx y (KZ _ hy)⟩,s2,sb,fun x hx y hy=>?_,fun x hx y hy=>?_⟩
 ·simpa using p
 ·rcases Ld.mp hx with q|q
  ·exact oa x q y (KY _ hy)
  ·exact s3 x q y hy
 ·rcases Ld.mp hx with q|q
  ·exact ob x q y hy
  ·exact hc x q y hy
theorem MI.b {c:List Keyed} (h:MI key la lb o ra (c++rb)) (hc:∀x∈c,∀y∈ra,Le key x y):MI key la lb (o++c) ra rb:=by
 obtain ⟨p,so,sa,sb,oa,ob⟩:=h;obtain ⟨s1,s2,s3⟩:=Lm.mp sb;refine ⟨?_,Lm.mpr ⟨so,s1,fun x hx y hy=>ob x hx y (KZ _ hy)⟩,sa,s2,fun x hx y hy=>?_,fun x hx y hy=>?_⟩
 ·refine List.Perm.trans ?_ p;have:(c++(ra++rb)).Perm (ra++(c++rb)):=by
   rw [<-List.append_assoc,<-List.append_assoc];exact List.perm_append_comm.append_right _
  rw [List.append_assoc];exact this.append_left o
 ·rcases Ld.mp hx with q|q
  ·exact oa x q y hy
  ·exact hc x q y hy
 ·rcases Ld.mp hx with q|q
  ·exact ob x q y (KY _ hy)
  ·exact s3 x q y hy
theorem MI.ab (h:MI key la lb o ra rb) (hc:∀x∈ra,∀y∈rb,Le key x y):oP key la lb (o++ra++rb):=by
 have h1:MI key la lb (o++ra) [] rb:=MI.a (by simpa using h) hc;have h2:MI key la lb (o++ra++rb) [] []:=MI.b (by simpa using h1) (fun _ _ _ hy=>nomatch hy);exact ⟨by simpa using h2.perm,h2.so⟩
theorem MI.ba (h:MI key la lb o ra rb) (hc:∀x∈rb,∀y∈ra,Le key x y):oP key la lb (o++rb++ra):=by
 have h1:MI key la lb (o++rb) ra []:=MI.b (by simpa using h) hc;have h2:MI key la lb (o++rb++ra) [] []:=MI.a (by simpa using h1) (fun _ _ _ hy=>nomatch hy);exact ⟨by simpa using h2.perm,h2.so⟩
end
structure Sm (st D':SortSt):Prop where
 kind:kindOf D'=kindOf st
 arr:arrOf D'=arrOf st
 pend:pendingOf D'=pendingOf st
 failed:failedOf D'=failedOf st
theorem Sm.refl (st:SortSt):Sm st st:=⟨rfl,rfl,rfl,rfl⟩
theorem Sm.trans {a b c:SortSt} (h1:Sm a b) (h2:Sm b c):Sm a c:=⟨h2.kind.trans h1.kind,h2.arr.trans h1.arr,h2.pend.trans h1.pend,h2.failed.trans h1.failed⟩
noncomputable def Jp:Nat->StateT SortSt Sem Unit:=sortPriv% PySem.Builtin.setMinGallop
section
variable {M:Model} {A:Around} {E:Value->Shared->Prop} {s:Shared} {κ:SortKind} {key:Keyed->List Int} {P:Keyed->Prop}
variable {st:SortSt}
theorem tJ {g:Nat} {Q:Unit->SortSt->Prop} (h:∀D',Sm st D'->Q () D'):wpS M A E s (Jp g) Q st:=wpS_modify (h _ ⟨rfl,rfl,rfl,rfl⟩)
theorem lE (hA:oj M A E s κ key P) {k:Keyed} {arr:Array Keyed} {base n hint:Nat} {Q:Option Nat->SortSt->Prop} (hk:kindOf st=κ) (hPk:P k) (hz:base+n<=arr.size)
  (hP:∀x∈arr.toList,P x) (hs:fq key arr base (base+n)) (hh:hint<n)
  (h:∀r,r<=n->(∀i x,base<=i->i<base+r->arr[i]?=some x->Le key x k)->(∀i x,base+r<=i->i<base+n->arr[i]?=some x->ll (key k) (key x)=true)->Q (some r) st) :
  wpS M A E s (uf false k arr base n hint) Q st:=by
 have get:∀i,i<n->arr[base+i]?=some (arr[base+i]?.getD k):=fun i hi=>by
  obtain ⟨x,ex,_⟩:=dc (arr:=arr) (i:=base+i) 0x1;rw [ex]; rfl
 refine rZ hA hk (fun i hi=>?_) hPk hh (fun i=>Ka key false k (arr[base+i]?.getD k)) (fun i x hi ex=>by rw [ex]; rfl) (fun i j Oh hj hb=>?_) fun r hr h1 h2=>h r hr (fun i x q1 q2 ex=>?_) (fun i x q1 q2 ex=>?_)
 ·obtain ⟨x,ex,mx⟩:=dc (arr:=arr) (i:=base+i) 0x1;exact ⟨x,ex,hP x mx⟩
 ·have hle:=hs (base+i) (base+j) _ _ 0x1 0x1 0x1 (get i 0x1) (get j hj);show (!ll (key k) (key (arr[base+i]?.getD k)))=true;have Mv:(!ll (key k) (key (arr[base+j]?.getD k)))=true:=hb;have q:ll (key k) (key (arr[base+j]?.getD k))=false:=by simpa using Mv
  have:ll (key k) (key (arr[base+i]?.getD k))=false:=Le.trans hle q;rw [this]; rfl
 ·have:=h1 (i-base) 0x1;rw [show base+(i-base)=i by lia,ex] at this;have t:(!ll (key k) (key x))=true:=this;exact (by simpa using t:ll (key k) (key x)=false)
 ·have:=h2 (i-base) 0x1 0x1;rw [show base+(i-base)=i by lia,ex] at this;have t:(!ll (key k) (key x))=false:=this;simpa using t
theorem gJ (hA:oj M A E s κ key P) {k:Keyed} {arr:Array Keyed} {base n hint:Nat} {Q:Option Nat->SortSt->Prop} (hk:kindOf st=κ) (hPk:P k) (hz:base+n<=arr.size)
  (hP:∀x∈arr.toList,P x) (hs:fq key arr base (base+n)) (hh:hint<n)
  (h:∀r,r<=n->(∀i x,base<=i->i<base+r->arr[i]?=some x->ll (key x) (key k)=true)->(∀i x,base+r<=i->i<base+n->arr[i]?=some x->Le key k x)->Q (some r) st) :
  wpS M A E s (uf true k arr base n hint) Q st:=by
 have get:∀i,i<n->arr[base+i]?=some (arr[base+i]?.getD k):=fun i hi=>by
  obtain ⟨x,ex,_⟩:=dc (arr:=arr) (i:=base+i) 0x1;rw [ex]; rfl
 refine rZ hA hk (fun i hi=>?_) hPk hh (fun i=>Ka key true k (arr[base+i]?.getD k)) (fun i x hi ex=>by rw [ex]; rfl) (fun i j Oh hj hb=>?_) fun r hr h1 h2=>h r hr (fun i x q1 q2 ex=>?_) (fun i x q1 q2 ex=>?_)
 ·obtain ⟨x,ex,mx⟩:=dc (arr:=arr) (i:=base+i) 0x1;exact ⟨x,ex,hP x mx⟩
 ·have hle:=hs (base+i) (base+j) _ _ 0x1 0x1 0x1 (get i 0x1) (get j hj);have Mv:ll (key (arr[base+j]?.getD k)) (key k)=true:=hb;show ll (key (arr[base+i]?.getD k)) (key k)=true;cases c:ll (key (arr[base+i]?.getD k)) (key k) with
  |true=>rfl
  |false=>
   have:ll (key (arr[base+j]?.getD k)) (key k)=false:=Le.trans c hle;rw [this] at Mv; cases Mv
 ·have:=h1 (i-base) 0x1;rw [show base+(i-base)=i by lia,ex] at this;exact this
 ·have:=h2 (i-base) 0x1 0x1;rw [show base+(i-base)=i by lia,ex] at this;exact this
end
noncomputable def AV:Array Keyed->Array Keyed->StateT SortSt Sem (Array Keyed):=sortPriv% PySem.Builtin.mergeLo
section
variable {M:Model} {A:Around} {E:Value->Shared->Prop} {s:Shared} {κ:SortKind} {key:Keyed->List Int} {P:Keyed->Prop}
structure LoA (key:Keyed->List Int) (a b:Array Keyed) (out:Array Keyed) (ia ib:Nat):Prop where
 mi:MI key a.toList b.toList out.toList (a.toList.drop ia) (b.toList.drop ib)
 ha:ia+1<a.size
 hb:ib<b.size
theorem xA (hA:oj M A E s κ key P) {a b:Array Keyed} {st:SortSt} {Q:Array Keyed->SortSt->Prop} (hk:kindOf st=κ)
  (pa:∀x∈a.toList,P x) (pb:∀x∈b.toList,P x) (za:0<a.size) (zb:0<b.size) (sa:a.toList.Pairwise (Le key)) (sb:b.toList.Pairwise (Le key))
  (first:∀y,b[0]?=some y->∀x∈a.toList,Le key y x) (last:∀z,a[a.size-1]?=some z->∀y∈b.toList,Le key y z)
  (h:∀r D',Sm st D'->oP key a.toList b.toList r.toList->Q r D'):wpS M A E s (AV a b) Q st:=by
 have Sa:fq key a 0 a.size:=kh.mp sa;have Sb:fq key b 0 b.size:=kh.mp sb;have LK:∀(out:Array Keyed) (ia ib:Nat),MI key a.toList b.toList out.toList (a.toList.drop ia) (b.toList.drop ib)->(ib=b.size\/ia=a.size)->oP key a.toList b.toList (out++a.extract ia++b.extract ib).toList:=fun out ia ib mi hc=>by
  rw [Array.toList_append,Array.toList_append,oE,oE];refine mi.ab fun x hx y hy=>?_;rcases hc with hc|hc
  ·rw [hc,List.drop_of_length_le 0x4] at hy; cases hy
  ·rw [hc,List.drop_of_length_le 0x4] at hx; cases hx
 have Mo:∀(out:Array Keyed) (ia ib:Nat),MI key a.toList b.toList out.toList (a.toList.drop ia) (b.toList.drop ib)->ia+1=a.size->oP key a.toList b.toList (out++b.extract ib++a.extract ia).toList:=fun out ia ib mi hc=>by
  rw [Array.toList_append,Array.toList_append,oE,oE];refine mi.ba fun x hx y hy=>?_;obtain ⟨j,j1,j2,ej⟩:=i5 hy;have:j=a.size-1:=by lia
  subst this;exact last y ej x (List.mem_of_mem_drop hx)
 have Md:∀(out:Array Keyed) (ia ib:Nat) (x:Keyed),MI key a.toList b.toList out.toList (a.toList.drop ia) (b.toList.drop ib)->b[ib]?=some x->(∀z,a[ia]?=some z->Le key x z)->MI key a.toList b.toList (out.push x).toList (a.toList.drop ia) (b.toList.drop (ib+1)):=fun out ia ib x mi ex hx=>by
  rw [yc ex] at mi;rw [Array.toList_push];refine MI.b (c:=[x]) (by simpa using mi) fun u hu y hy=>?_;rw [Lg.mp hu];obtain ⟨j,j1,j2,ej⟩:=i5 hy;obtain ⟨z,ez,_⟩:=dc (arr:=a) (i:=ia) 0x1;exact (hx z ez).trans (Sa ia j z y (Lo _) j1 j2 ez ej)
 have LX:∀(out:Array Keyed) (ia ib:Nat) (x:Keyed),MI key a.toList b.toList out.toList (a.toList.drop ia) (b.toList.drop ib)->a[ia]?=some x->(∀z,b[ib]?=some z->Le key x z)->MI key a.toList b.toList (out.push x).toList (a.toList.drop (ia+1)) (b.toList.drop ib):=fun out ia ib x mi ex hx=>by
  rw [yc ex] at mi;rw [Array.toList_push];refine MI.a (c:=[x]) (by simpa using mi) fun u hu y hy=>?_;rw [Lg.mp hu];obtain ⟨j,j1,j2,ej⟩:=i5 hy;obtain ⟨z,ez,_⟩:=dc (arr:=b) (i:=ib) 0x1;exact (hx z ez).trans (Sb ib j z y (Lo _) j1 j2 ez ej)
 refine wpS_bind (wpS_lift (wpAny_rule ⟨rfl,?_⟩));obtain ⟨y0,ey0,my0⟩:=dc (arr:=b) (i:=0) zb;refine wpS_bind (a9 ey0 ?_);dsimp only;have OA:MI key a.toList b.toList (#[y0]:Array Keyed).toList (a.toList.drop 0) (b.toList.drop 1):=by
  have:MI key a.toList b.toList (#[]:Array Keyed).toList (a.toList.drop 0) (b.toList.drop 0):=⟨0x4,List.Pairwise.nil,by simpa using sa,by simpa using sb,fun _ hx=>(by simp at hx),fun _ hx=>(by simp at hx)⟩;exact Md #[] 0 0 y0 this ey0 fun z ez=>first y0 ey0 z (by
   obtain ⟨hz,rfl⟩:=Ln.mp ez;simp)
 by_cases c1:(1==b.size)=true
 ·rw [if_pos c1];exact wpS_pure (h _ _ (Sm.refl _) (LK _ _ _ OA (.inl (by simpa using c1))))
 rw [if_neg c1];have c1':1≠b.size:=by simpa using c1
 by_cases c2:(0+1==a.size)=true
 ·rw [if_pos c2];exact wpS_pure (h _ _ (Sm.refl _) (Mo _ _ _ OA (by simpa using c2)))
 rw [if_neg c2];have c2':0+1≠a.size:=by simpa using c2
 refine wpS_bind (wpS_get ?_);refine wpS_bind (wpS_mono (wpS_forRange
  (I:=fun x c D'=>Sm st D'/\∃out ia ib g,c=(none,out,ia,ib,g)/\LoA key a b out ia ib/\x+1<=ia+ib)
  (Q:=fun c D'=>Sm st D'/\∃r cF,c=(some r,cF)/\oP key a.toList b.toList r.toList) ?step ?fin ⟨Sm.refl _,_,_,_,_,rfl,⟨OA,0x1,0x1⟩,0x1⟩) ?post)
 case post=>
  rintro c D' ⟨hS,r,cF,rfl,hr⟩;exact wpS_pure (h r D' hS hr)
 case fin=>
  rintro c D' ⟨hS,out,ia,ib,g,rfl,hL,hx⟩;have:=hL.ha;have:=hL.hb;exact absurd hx 0x1
 case step=>
  rintro x c G' _ hx ⟨OY,out,ia,ib,g,rfl,hL,hxx⟩;dsimp only;refine wpS_bind (wpS_mono (wpS_forRange
   (I:=fun y c D'=>D'=G'/\∃out LQ LG ac bc,c=(none,out,LQ,LG,ac,bc)/\LoA key a b out LQ LG/\ia+ib+y<=LQ+LG)
   (Q:=fun c D'=>D'=G'/\((∃r cF,c=(some r,cF)/\oP key a.toList b.toList r.toList)\/∃out LQ LG ac bc,c=(none,out,LQ,LG,ac,bc)/\LoA key a b out LQ LG/\ia+ib+1<=LQ+LG))
   ?istep ?ifin ⟨rfl,_,_,_,_,_,rfl,hL,K2 _⟩) ?ipost)
  case ifin=>
   rintro c D' ⟨rfl,out,LQ,LG,ac,bc,rfl,L6,hy⟩;exact ⟨rfl,.inr ⟨_,_,_,_,_,rfl,L6,0x1⟩⟩
  case istep=>
   rintro y c D' _ hy ⟨rfl,out,LQ,LG,ac,bc,rfl,L6,hyy⟩;dsimp only;obtain ⟨Ms,Mv⟩:=And.intro L6.ha L6.hb;obtain ⟨xb,Mp,OG⟩:=dc (arr:=b) (i:=LG) Mv;obtain ⟨xa,N8,mxa⟩:=dc (arr:=a) (i:=LQ) 0x1;refine wpS_bind (a9 Mp (wpS_bind (a9 N8 (wpS_bind (hA xb xa _ _ (OY.kind.trans hk) (pb _ OG) (pa _ mxa) ?_)))));dsimp only;cases c3:ll (key xb) (key xa) with
   |true=>
    rw [if_pos rfl];refine wpS_bind (a9 Mp ?_);have NS:=Md out LQ LG xb L6.mi Mp (fun z ez=>by rw [N8] at ez; cases ez; exact Le.of_lt c3);by_cases c4:(LG+1==b.size)=true
    ·rw [if_pos c4];exact wpS_pure ⟨rfl,.inl ⟨_,_,rfl,LK _ _ _ NS (.inl (by simpa using c4))⟩⟩
    ·rw [if_neg c4];have c4':LG+1≠b.size:=by simpa using c4
     have Nh:LoA key a b (out.push xb) LQ (LG+1):=⟨NS,Ms,0x1⟩;by_cases c5:bc+1>=g
     ·rw [if_pos c5]; exact wpS_pure ⟨rfl,.inr ⟨_,_,_,_,_,rfl,Nh,0x1⟩⟩
     ·rw [if_neg c5]; exact wpS_pure ⟨rfl,_,_,_,_,_,rfl,Nh,0x1⟩
   |false=>
    rw [if_neg 0x4];refine wpS_bind (a9 N8 ?_);have NS:=LX out LQ LG xa L6.mi N8 (fun z ez=>by rw [Mp] at ez; cases ez; exact c3);by_cases c4:(LQ+1+1==a.size)=true
    ·rw [if_pos c4];exact wpS_pure ⟨rfl,.inl ⟨_,_,rfl,Mo _ _ _ NS (by simpa using c4)⟩⟩
    ·rw [if_neg c4];have c4':LQ+1+1≠a.size:=by simpa using c4
     have Nh:LoA key a b (out.push xa) (LQ+1) LG:=⟨NS,0x1,Mv⟩;by_cases c5:ac+1>=g
     ·rw [if_pos c5]; exact wpS_pure ⟨rfl,.inr ⟨_,_,_,_,_,rfl,Nh,0x1⟩⟩
     ·rw [if_neg c5]; exact wpS_pure ⟨rfl,_,_,_,_,_,rfl,Nh,0x1⟩
  case ipost=>
   rintro c D' ⟨rfl,hc⟩;rcases hc with ⟨r,cF,rfl,hr⟩|⟨out,Ov,Oi,ac,bc,rfl,Nh,hy2⟩
   ·dsimp only;exact wpS_pure ⟨OY,r,_,rfl,hr⟩
   dsimp only;refine wpS_bind (wpS_lift (wpAny_rule ⟨rfl,?_⟩));refine wpS_bind (wpS_mono (wpS_forRange
    (I:=fun y c D'=>Sm st D'/\∃out LQ LG g ac bc,c=(none,out,LQ,LG,g,ac,bc)/\LoA key a b out LQ LG/\Ov+Oi<=LQ+LG)
    (Q:=fun c D'=>Sm st D'/\((∃r cF,c=(some r,cF)/\oP key a.toList b.toList r.toList)\/∃out LQ LG g ac bc,c=(none,out,LQ,LG,g,ac,bc)/\LoA key a b out LQ LG/\Ov+Oi<=LQ+LG))
    ?gstep ?gfin ⟨OY,_,_,_,_,_,_,rfl,Nh,K2 _⟩) ?gpost)
   case gfin=>
    rintro c D' ⟨hS,out,LQ,LG,g,ac,bc,rfl,L6,hy⟩;exact ⟨hS,.inr ⟨_,_,_,_,_,_,rfl,L6,hy⟩⟩
   case gpost=>
    rintro c D' ⟨hS,hc⟩;rcases hc with ⟨r,cF,rfl,hr⟩|⟨out,ia3,ib3,g,ac,bc,rfl,hL3,hy3⟩
    ·dsimp only;exact wpS_pure ⟨hS,r,_,rfl,hr⟩
    dsimp only;refine wpS_bind (wpS_modify (wpS_pure ⟨hS.trans ⟨rfl,rfl,rfl,rfl⟩,_,_,_,_,rfl,hL3,0x1⟩))
   case gstep=>
    rintro y c LH _ hy ⟨hS2,out,LQ,LG,g,ac,bc,rfl,L6,hyy⟩;dsimp only;have Ms:=L6.ha;have Mv:=L6.hb;obtain ⟨xb,Mp,OG⟩:=dc (arr:=b) (i:=LG) Mv;by_cases hg:g>1
    case' pos=>rw [if_pos hg]
    case' neg=>rw [if_neg hg]
    all_goals
     refine wpS_bind (tJ fun L' NP=>?_);have LP:=hS2.trans NP;refine wpS_bind (a9 Mp ?_);refine wpS_bind (lE hA (LP.kind.trans hk) (pb _ OG) 0x1 pa (fun i j x y q1 q2 q3=>Sa i j x y (Lo _) q2 0x1) 0x1 fun k w1 w2 w3=>?_);dsimp only;by_cases hk0:k>0
     ·rw [if_pos hk0];have NW:MI key a.toList b.toList (out++a.extract LQ (LQ+k)).toList (a.toList.drop (LQ+k)) (b.toList.drop LG):=by
       rw [Array.toList_append];refine MI.a (by rw [<-pL]; exact L6.mi) fun x hx y hy=>?_;obtain ⟨i,i1,i2,i3,ei⟩:=eA hx;obtain ⟨j,j1,j2,ej⟩:=i5 hy;exact (w2 i x i1 i2 ei).trans (Sb LG j xb y (Lo _) j1 j2 Mp ej)
      by_cases e1:(LQ+k+1==a.size)=true
      ·rw [if_pos e1];exact wpS_pure ⟨LP,.inl ⟨_,_,rfl,Mo _ _ _ NW (by simpa using e1)⟩⟩
      rw [if_neg e1];have e1':LQ+k+1≠a.size:=by simpa using e1
      by_cases e2:(LQ+k==a.size)=true
      ·rw [if_pos e2];exact wpS_pure ⟨LP,.inl ⟨_,_,rfl,LK _ _ _ NW (.inr (by simpa using e2))⟩⟩
      rw [if_neg e2];have e2':LQ+k≠a.size:=by simpa using e2
      have lt1:LQ+k+1<a.size:=by lia
      have low:∀z,a[LQ+k]?=some z->Le key xb z:=fun z ez=>Le.of_lt (w3 _ z (K2 _) 0x1 ez);have gr:Ov+Oi<=LQ+k+LG:=by lia
      clear w2 w3 e1 e2;generalize out++a.extract LQ (LQ+k)=out1 at *;generalize LQ+k=ia1 at *;obtain ⟨L5,LJ,M4⟩:=dc (arr:=a) (i:=ia1) 0x1;refine wpS_bind (a9 Mp ?_);have LS:=Md out1 ia1 LG xb NW Mp low;by_cases e3:(LG+1==b.size)=true
      ·rw [if_pos e3];exact wpS_pure ⟨LP,.inl ⟨_,_,rfl,LK _ _ _ LS (.inl (by simpa using e3))⟩⟩
      rw [if_neg e3];have e3':LG+1≠b.size:=by simpa using e3
      refine wpS_bind (a9 LJ ?_);refine wpS_bind (gJ hA (LP.kind.trans hk) (pa _ M4) 0x1 pb (fun i j x y q1 q2 q3=>Sb i j x y (Lo _) q2 0x1) 0x1 fun k2 u1 u2 u3=>?_);dsimp only;by_cases hk2:k2>0
      ·rw [if_pos hk2];have Mw:MI key a.toList b.toList (out1.push xb++b.extract (LG+1) (LG+1+k2)).toList (a.toList.drop ia1) (b.toList.drop (LG+1+k2)):=by
        rw [Array.toList_append];refine MI.b (by rw [<-pL]; exact LS) fun x hx y hy=>?_;obtain ⟨i,i1,i2,i3,ei⟩:=eA hx;obtain ⟨j,j1,j2,ej⟩:=i5 hy;exact (Le.of_lt (u2 i x i1 i2 ei)).trans (Sa ia1 j L5 y (Lo _) j1 j2 LJ ej)
       by_cases e4:(LG+1+k2==b.size)=true
       ·rw [if_pos e4];exact wpS_pure ⟨LP,.inl ⟨_,_,rfl,LK _ _ _ Mw (.inl (by simpa using e4))⟩⟩
       rw [if_neg e4];have e4':LG+1+k2≠b.size:=by simpa using e4
       have Nb:∀z,b[LG+1+k2]?=some z->Le key L5 z:=fun z ez=>u3 _ z (K2 _) 0x1 ez;have Na:Ov+Oi<=ia1+1+(LG+1+k2):=by lia
       have OL:LG+1+k2<b.size:=by lia
       clear u2 u3 e4;generalize out1.push xb++b.extract (LG+1) (LG+1+k2)=out2 at *;generalize LG+1+k2=ibz at *;refine wpS_bind (a9 LJ ?_);have Mn:=LX out2 ia1 ibz L5 Mw LJ Nb;by_cases d1:(ia1+1+1==a.size)=true
       ·rw [if_pos d1];exact wpS_pure ⟨LP,.inl ⟨_,_,rfl,Mo _ _ _ Mn (by simpa using d1)⟩⟩
       rw [if_neg d1];have OF:ia1+1+1≠a.size:=by simpa using d1
       have Mr:LoA key a b (out2.push L5) (ia1+1) ibz:=⟨Mn,0x1,0x1⟩;split
       ·exact wpS_pure ⟨LP,.inr ⟨_,_,_,_,_,_,rfl,Mr,0x1⟩⟩
       ·exact wpS_pure ⟨LP,_,_,_,_,_,_,rfl,Mr,0x1⟩
      ·rw [if_neg hk2];have Mw:=LS;have hk2':k2=0:=by lia
       have Nb:∀z,b[LG+1]?=some z->Le key L5 z:=fun z ez=>u3 _ z 0x1 0x1 ez;have Na:Ov+Oi<=ia1+1+(LG+1):=by lia
       have OL:LG+1<b.size:=by lia
       clear u2 u3 LS;generalize out1.push xb=out2 at *;generalize LG+1=ibz at *;refine wpS_bind (a9 LJ ?_);have Mn:=LX out2 ia1 ibz L5 Mw LJ Nb;by_cases d1:(ia1+1+1==a.size)=true
       ·rw [if_pos d1];exact wpS_pure ⟨LP,.inl ⟨_,_,rfl,Mo _ _ _ Mn (by simpa using d1)⟩⟩
       rw [if_neg d1];have OF:ia1+1+1≠a.size:=by simpa using d1
       have Mr:LoA key a b (out2.push L5) (ia1+1) ibz:=⟨Mn,0x1,0x1⟩;split
       ·exact wpS_pure ⟨LP,.inr ⟨_,_,_,_,_,_,rfl,Mr,0x1⟩⟩
       ·exact wpS_pure ⟨LP,_,_,_,_,_,_,rfl,Mr,0x1⟩
     ·rw [if_neg hk0];have NW:=L6.mi;have hk0':k=0:=by lia
      have low:∀z,a[LQ]?=some z->Le key xb z:=fun z ez=>Le.of_lt (w3 _ z 0x1 0x1 ez);have lt1:LQ+1<a.size:=Ms;have gr:Ov+Oi<=LQ+LG:=hyy;clear w2 w3;generalize out=out1 at *;generalize LQ=ia1 at *;obtain ⟨L5,LJ,M4⟩:=dc (arr:=a) (i:=ia1) 0x1;refine wpS_bind (a9 Mp ?_);have LS:=Md out1 ia1 LG xb NW Mp low;by_cases e3:(LG+1==b.size)=true
      ·rw [if_pos e3];exact wpS_pure ⟨LP,.inl ⟨_,_,rfl,LK _ _ _ LS (.inl (by simpa using e3))⟩⟩
      rw [if_neg e3];have e3':LG+1≠b.size:=by simpa using e3
      refine wpS_bind (a9 LJ ?_);refine wpS_bind (gJ hA (LP.kind.trans hk) (pa _ M4) 0x1 pb (fun i j x y q1 q2 q3=>Sb i j x y (Lo _) q2 0x1) 0x1 fun k2 u1 u2 u3=>?_);dsimp only;by_cases hk2:k2>0
      ·rw [if_pos hk2];have Mw:MI key a.toList b.toList (out1.push xb++b.extract (LG+1) (LG+1+k2)).toList (a.toList.drop ia1) (b.toList.drop (LG+1+k2)):=by
        rw [Array.toList_append];refine MI.b (by rw [<-pL]; exact LS) fun x hx y hy=>?_;obtain ⟨i,i1,i2,i3,ei⟩:=eA hx;obtain ⟨j,j1,j2,ej⟩:=i5 hy;exact (Le.of_lt (u2 i x i1 i2 ei)).trans (Sa ia1 j L5 y (Lo _) j1 j2 LJ ej)
       by_cases e4:(LG+1+k2==b.size)=true
       ·rw [if_pos e4];exact wpS_pure ⟨LP,.inl ⟨_,_,rfl,LK _ _ _ Mw (.inl (by simpa using e4))⟩⟩
       rw [if_neg e4];have e4':LG+1+k2≠b.size:=by simpa using e4
       have Nb:∀z,b[LG+1+k2]?=some z->Le key L5 z:=fun z ez=>u3 _ z (K2 _) 0x1 ez;have Na:Ov+Oi<=ia1+1+(LG+1+k2):=by lia
       have OL:LG+1+k2<b.size:=by lia
       clear u2 u3 e4;generalize out1.push xb++b.extract (LG+1) (LG+1+k2)=out2 at *;generalize LG+1+k2=ibz at *;refine wpS_bind (a9 LJ ?_);have Mn:=LX out2 ia1 ibz L5 Mw LJ Nb;by_cases d1:(ia1+1+1==a.size)=true
       ·rw [if_pos d1];exact wpS_pure ⟨LP,.inl ⟨_,_,rfl,Mo _ _ _ Mn (by simpa using d1)⟩⟩
       rw [if_neg d1];have OF:ia1+1+1≠a.size:=by simpa using d1
       have Mr:LoA key a b (out2.push L5) (ia1+1) ibz:=⟨Mn,0x1,0x1⟩;split
       ·exact wpS_pure ⟨LP,.inr ⟨_,_,_,_,_,_,rfl,Mr,0x1⟩⟩
       ·exact wpS_pure ⟨LP,_,_,_,_,_,_,rfl,Mr,0x1⟩
      ·rw [if_neg hk2];have Mw:=LS;have hk2':k2=0:=by lia
       have Nb:∀z,b[LG+1]?=some z->Le key L5 z:=fun z ez=>u3 _ z 0x1 0x1 ez;have Na:Ov+Oi<=ia1+1+(LG+1):=by lia
       have OL:LG+1<b.size:=by lia
       clear u2 u3 LS;generalize out1.push xb=out2 at *;generalize LG+1=ibz at *;refine wpS_bind (a9 LJ ?_);have Mn:=LX out2 ia1 ibz L5 Mw LJ Nb;by_cases d1:(ia1+1+1==a.size)=true
       ·rw [if_pos d1];exact wpS_pure ⟨LP,.inl ⟨_,_,rfl,Mo _ _ _ Mn (by simpa using d1)⟩⟩
       rw [if_neg d1];have OF:ia1+1+1≠a.size:=by simpa using d1
       have Mr:LoA key a b (out2.push L5) (ia1+1) ibz:=⟨Mn,0x1,0x1⟩;split
       ·exact wpS_pure ⟨LP,.inr ⟨_,_,_,_,_,_,rfl,Mr,0x1⟩⟩
       ·exact wpS_pure ⟨LP,_,_,_,_,_,_,rfl,Mr,0x1⟩
end
noncomputable def Br:Array Keyed->Array Keyed->StateT SortSt Sem (Array Keyed):=sortPriv% PySem.Builtin.mergeHi
section
variable {key:Keyed->List Int}
structure MH (key:Keyed->List Int) (la lb o ra rb:List Keyed):Prop where
 perm:(ra++rb++o).Perm (la++lb)
 so:o.Pairwise (Le key)
 sa:ra.Pairwise (Le key)
 sb:rb.Pairwise (Le key)
 ao:∀x∈ra,∀y∈o,Le key x y
 bo:∀x∈rb,∀y∈o,Le key x y
variable {la lb o ra rb:List Keyed}
theorem MH.b {c:List Keyed} (h:MH key la lb o ra (rb++c)) (hc:∀x∈c,∀y∈ra,Le key y x):MH key la lb (c++o) ra rb:=by
 obtain ⟨p,so,sa,sb,ao,bo⟩:=h;obtain ⟨s1,s2,s3⟩:=Lm.mp sb;refine ⟨by simpa using p,Lm.mpr ⟨s2,so,fun x hx y hy=>bo x (KY _ hx) y hy⟩,sa,s1,fun x hx y hy=>?_,fun x hx y hy=>?_⟩
 ·rcases Ld.mp hy with q|q
  ·exact hc y q x hx
  ·exact ao x hx y q
 ·rcases Ld.mp hy with q|q
  ·exact s3 x hx y q
  ·exact bo x (KZ _ hx) y q
theorem MH.a {c:List Keyed} (h:MH key la lb o (ra++c) rb) (hc:∀x∈c,∀y∈rb,Le key y x):MH key la lb (c++o) ra rb:=by
 obtain ⟨p,so,sa,sb,ao,bo⟩:=h;obtain ⟨s1,s2,s3⟩:=Lm.mp sa;refine ⟨?_,Lm.mpr ⟨s2,so,fun x hx y hy=>ao x (KY _ hx) y hy⟩,s1,sb,fun x hx y hy=>?_,fun x hx y hy=>?_⟩
 ·refine List.Perm.trans ?_ p;have:(rb++c).Perm (c++rb):=List.perm_append_comm;have e1:ra++rb++(c++o)=ra++((rb++c)++o):=by simp
  have e2:ra++c++rb++o=ra++((c++rb)++o):=by simp
  rw [e1,e2];exact (this.append_right o).append_left ra
 ·rcases Ld.mp hy with q|q
  ·exact s3 x hx y q
  ·exact ao x (KZ _ hx) y q
 ·rcases Ld.mp hy with q|q
  ·exact hc y q x hx
  ·exact bo x hx y q
theorem MH.ab (h:MH key la lb o ra rb) (hc:∀x∈ra,∀y∈rb,Le key x y):oP key la lb (ra++rb++o):=by
 have h1:MH key la lb (rb++o) ra []:=MH.b (by simpa using h) (fun x hx y hy=>hc y hy x hx);have h2:MH key la lb (ra++(rb++o)) [] []:=MH.a (by simpa using h1) (fun _ _ _ hy=>nomatch hy);exact ⟨by simpa using h2.perm,by simpa using h2.so⟩
theorem MH.ba (h:MH key la lb o ra rb) (hc:∀x∈rb,∀y∈ra,Le key x y):oP key la lb (rb++ra++o):=by
 have h1:MH key la lb (ra++o) [] rb:=MH.a (by simpa using h) (fun x hx y hy=>hc y hy x hx);have h2:MH key la lb (rb++(ra++o)) [] []:=MH.b (by simpa using h1) (fun _ _ _ hy=>nomatch hy);exact ⟨by simpa using h2.perm,by simpa using h2.so⟩
end
section
variable {M:Model} {A:Around} {E:Value->Shared->Prop} {s:Shared} {κ:SortKind} {key:Keyed->List Int} {P:Keyed->Prop}
structure HiA (key:Keyed->List Int) (a b:Array Keyed) (out:Array Keyed) (na nb:Nat):Prop where
 mi:MH key a.toList b.toList out.reverse.toList (a.toList.take na) (b.toList.take nb)
 ha:0<na
 ha2:na<=a.size
 hb:1<nb
 hb2:nb<=b.size
theorem xJ (hA:oj M A E s κ key P) {a b:Array Keyed} {st:SortSt} {Q:Array Keyed->SortSt->Prop} (hk:kindOf st=κ)
  (pa:∀x∈a.toList,P x) (pb:∀x∈b.toList,P x) (za:0<a.size) (zb:0<b.size) (sa:a.toList.Pairwise (Le key)) (sb:b.toList.Pairwise (Le key))
  (first:∀y,b[0]?=some y->∀x∈a.toList,Le key y x) (last:∀z,a[a.size-1]?=some z->∀y∈b.toList,Le key y z)
  (h:∀r D',Sm st D'->oP key a.toList b.toList r.toList->Q r D'):wpS M A E s (Br a b) Q st:=by
 have Sa:fq key a 0 a.size:=kh.mp sa;have Sb:fq key b 0 b.size:=kh.mp sb;have LK:∀(out:Array Keyed) (na nb:Nat),MH key a.toList b.toList out.reverse.toList (a.toList.take na) (b.toList.take nb)->(na=0\/nb=0)->oP key a.toList b.toList (a.extract 0 na++b.extract 0 nb++out.reverse).toList:=fun out na nb mi hc=>by
  rw [Array.toList_append,Array.toList_append,kv,kv];refine mi.ab fun x hx y hy=>?_;rcases hc with hc|hc
  ·rw [hc] at hx; cases hx
  ·rw [hc] at hy; cases hy
 have Ma:∀(out:Array Keyed) (na nb:Nat),MH key a.toList b.toList out.reverse.toList (a.toList.take na) (b.toList.take nb)->nb=1->oP key a.toList b.toList (b.extract 0 nb++a.extract 0 na++out.reverse).toList:=fun out na nb mi hc=>by
  rw [Array.toList_append,Array.toList_append,kv,kv];refine mi.ba fun x hx y hy=>?_;obtain ⟨j,j1,j2,ej⟩:=iG hx;have:j=0:=by lia
  subst this;exact first x ej y (List.mem_of_mem_take hy)
 have Md:∀(out:Array Keyed) (na nb:Nat) (x:Keyed),MH key a.toList b.toList out.reverse.toList (a.toList.take na) (b.toList.take nb)->0<nb->na<=a.size->b[nb-1]?=some x->(∀z,0<na->a[na-1]?=some z->Le key z x)->MH key a.toList b.toList (out.push x).reverse.toList (a.toList.take na) (b.toList.take (nb-1)):=fun out na nb x mi h0 hz ex hx=>by
  have e:=yx ex;rw [show nb-1+1=nb by lia] at e;rw [e] at mi;have er:(out.push x).reverse.toList=[x]++out.reverse.toList:=by simp
  rw [er];refine MH.b mi fun u hu y hy=>?_;rw [Lg.mp hu];obtain ⟨j,j1,j2,ej⟩:=iG hy;obtain ⟨z,ez,_⟩:=dc (arr:=a) (i:=na-1) 0x1;exact (Sa j (na-1) y z (Lo _) 0x1 0x1 ej ez).trans (hx z 0x1 ez)
 have LX:∀(out:Array Keyed) (na nb:Nat) (x:Keyed),MH key a.toList b.toList out.reverse.toList (a.toList.take na) (b.toList.take nb)->0<na->nb<=b.size->a[na-1]?=some x->(∀z,0<nb->b[nb-1]?=some z->Le key z x)->MH key a.toList b.toList (out.push x).reverse.toList (a.toList.take (na-1)) (b.toList.take nb):=fun out na nb x mi h0 hz ex hx=>by
  have e:=yx ex;rw [show na-1+1=na by lia] at e;rw [e] at mi;have er:(out.push x).reverse.toList=[x]++out.reverse.toList:=by simp
  rw [er];refine MH.a mi fun u hu y hy=>?_;rw [Lg.mp hu];obtain ⟨j,j1,j2,ej⟩:=iG hy;obtain ⟨z,ez,_⟩:=dc (arr:=b) (i:=nb-1) 0x1;exact (Sb j (nb-1) y z (Lo _) 0x1 0x1 ej ez).trans (hx z 0x1 ez)
 refine wpS_bind (wpS_lift (wpAny_rule ⟨rfl,?_⟩));obtain ⟨z0,ez0,mz0⟩:=dc (arr:=a) (i:=a.size-1) 0x1;refine wpS_bind (a9 ez0 ?_);dsimp only;have OA:MH key a.toList b.toList (#[z0]:Array Keyed).reverse.toList (a.toList.take (a.size-1)) (b.toList.take b.size):=by
  have:MH key a.toList b.toList (#[]:Array Keyed).reverse.toList (a.toList.take a.size) (b.toList.take b.size):=by
   rw [List.take_of_length_le 0x4,List.take_of_length_le 0x4];exact ⟨0x4,0x4,sa,sb,fun _ _ _ hx=>(by simp at hx),fun _ _ _ hx=>(by simp at hx)⟩
  exact LX #[] a.size b.size z0 this za (K2 _) ez0 fun z _ ez=>last z0 ez0 z (by
   obtain ⟨hz,rfl⟩:=Ln.mp ez;simp)
 by_cases c1:(a.size-1==0)=true
 ·rw [if_pos c1];exact wpS_pure (h _ _ (Sm.refl _) (LK _ _ _ OA (.inl (by simpa using c1))))
 rw [if_neg c1];have c1':a.size-1≠0:=by simpa using c1
 by_cases c2:(b.size==1)=true
 ·rw [if_pos c2];exact wpS_pure (h _ _ (Sm.refl _) (Ma _ _ _ OA (by simpa using c2)))
 rw [if_neg c2];have c2':b.size≠1:=by simpa using c2
 refine wpS_bind (wpS_get ?_);refine wpS_bind (wpS_mono (wpS_forRange
  (I:=fun x c D'=>Sm st D'/\∃na nb out g,c=(none,na,nb,out,g)/\HiA key a b out na nb/\x+1+(na+nb)<=a.size+b.size)
  (Q:=fun c D'=>Sm st D'/\∃r cF,c=(some r,cF)/\oP key a.toList b.toList r.toList) ?step ?fin ⟨Sm.refl _,_,_,_,_,rfl,⟨OA,0x1,0x1,0x1,0x1⟩,0x1⟩) ?post)
 case post=>
  rintro c D' ⟨hS,r,cF,rfl,hr⟩;exact wpS_pure (h r D' hS hr)
 case fin=>
  rintro c D' ⟨hS,na,nb,out,g,rfl,hL,hx⟩;have:=hL.ha;have:=hL.hb;exact absurd hx 0x1
 case step=>
  rintro x c G' _ hx ⟨OY,na,nb,out,g,rfl,hL,hxx⟩;dsimp only;refine wpS_bind (wpS_mono (wpS_forRange
   (I:=fun y c D'=>D'=G'/\∃LZ LI out ac bc,c=(none,LZ,LI,out,ac,bc)/\HiA key a b out LZ LI/\y+(LZ+LI)<=na+nb)
   (Q:=fun c D'=>D'=G'/\((∃r cF,c=(some r,cF)/\oP key a.toList b.toList r.toList)\/∃LZ LI out ac bc,c=(none,LZ,LI,out,ac,bc)/\HiA key a b out LZ LI/\1+(LZ+LI)<=na+nb))
   ?istep ?ifin ⟨rfl,_,_,_,_,_,rfl,hL,0x1⟩) ?ipost)
  case ifin=>
   rintro c D' ⟨rfl,LZ,LI,out,ac,bc,rfl,L6,hy⟩;exact ⟨rfl,.inr ⟨_,_,_,_,_,rfl,L6,0x1⟩⟩
  case istep=>
   rintro y c D' _ hy ⟨rfl,LZ,LI,out,ac,bc,rfl,L6,hyy⟩;dsimp only;have q1:=L6.ha;have q2:=L6.ha2;have q3:=L6.hb;have q4:=L6.hb2;obtain ⟨xb,Mp,OG⟩:=dc (arr:=b) (i:=LI-1) 0x1;obtain ⟨xa,N8,mxa⟩:=dc (arr:=a) (i:=LZ-1) 0x1;refine wpS_bind (a9 Mp (wpS_bind (a9 N8 (wpS_bind (hA xb xa _ _ (OY.kind.trans hk) (pb _ OG) (pa _ mxa) ?_)))));dsimp only;cases c3:ll (key xb) (key xa) with
   |true=>
    rw [if_pos rfl];refine wpS_bind (a9 N8 ?_);have NS:=LX out LZ LI xa L6.mi q1 q4 N8 (fun z _ ez=>by rw [Mp] at ez; cases ez; exact Le.of_lt c3);by_cases c4:(LZ-1==0)=true
    ·rw [if_pos c4];exact wpS_pure ⟨rfl,.inl ⟨_,_,rfl,LK _ _ _ NS (.inl (by simpa using c4))⟩⟩
    ·rw [if_neg c4];have c4':LZ-1≠0:=by simpa using c4
     have Nh:HiA key a b (out.push xa) (LZ-1) LI:=⟨NS,0x1,0x1,0x1,0x1⟩;by_cases c5:ac+1>=g
     ·rw [if_pos c5]; exact wpS_pure ⟨rfl,.inr ⟨_,_,_,_,_,rfl,Nh,0x1⟩⟩
     ·rw [if_neg c5]; exact wpS_pure ⟨rfl,_,_,_,_,_,rfl,Nh,0x1⟩
   |false=>
    rw [if_neg 0x4];refine wpS_bind (a9 Mp ?_);have NS:=Md out LZ LI xb L6.mi 0x1 q2 Mp (fun z _ ez=>by rw [N8] at ez; cases ez; exact c3);by_cases c4:(LI-1==1)=true
    ·rw [if_pos c4];exact wpS_pure ⟨rfl,.inl ⟨_,_,rfl,Ma _ _ _ NS (by simpa using c4)⟩⟩
    ·rw [if_neg c4];have c4':LI-1≠1:=by simpa using c4
     have Nh:HiA key a b (out.push xb) LZ (LI-1):=⟨NS,0x1,0x1,0x1,0x1⟩;by_cases c5:bc+1>=g
     ·rw [if_pos c5]; exact wpS_pure ⟨rfl,.inr ⟨_,_,_,_,_,rfl,Nh,0x1⟩⟩
     ·rw [if_neg c5]; exact wpS_pure ⟨rfl,_,_,_,_,_,rfl,Nh,0x1⟩
  case ipost=>
   rintro c D' ⟨rfl,hc⟩;rcases hc with ⟨r,cF,rfl,hr⟩|⟨Oo,Om,out,ac,bc,rfl,Nh,hy2⟩
   ·dsimp only;exact wpS_pure ⟨OY,r,_,rfl,hr⟩
   dsimp only;refine wpS_bind (wpS_lift (wpAny_rule ⟨rfl,?_⟩));refine wpS_bind (wpS_mono (wpS_forRange
    (I:=fun y c D'=>Sm st D'/\∃LZ LI out g ac bc,c=(none,LZ,LI,out,g,ac,bc)/\HiA key a b out LZ LI/\LZ+LI<=Oo+Om)
    (Q:=fun c D'=>Sm st D'/\((∃r cF,c=(some r,cF)/\oP key a.toList b.toList r.toList)\/∃LZ LI out g ac bc,c=(none,LZ,LI,out,g,ac,bc)/\HiA key a b out LZ LI/\LZ+LI<=Oo+Om))
    ?gstep ?gfin ⟨OY,_,_,_,_,_,_,rfl,Nh,K2 _⟩) ?gpost)
   case gfin=>
    rintro c D' ⟨hS,LZ,LI,out,g,ac,bc,rfl,L6,hy⟩;exact ⟨hS,.inr ⟨_,_,_,_,_,_,rfl,L6,hy⟩⟩
   case gpost=>
    rintro c D' ⟨hS,hc⟩;rcases hc with ⟨r,cF,rfl,hr⟩|⟨na3,nb3,out,g,ac,bc,rfl,hL3,hy3⟩
    ·dsimp only;exact wpS_pure ⟨hS,r,_,rfl,hr⟩
    dsimp only;refine wpS_bind (tJ fun L' NP=>wpS_pure ⟨hS.trans NP,_,_,_,_,rfl,hL3,0x1⟩)
   case gstep=>
    rintro y c LH _ hy ⟨hS2,LZ,LI,out,g,ac,bc,rfl,L6,hyy⟩;dsimp only;have q1:=L6.ha;have q2:=L6.ha2;have q3:=L6.hb;have q4:=L6.hb2;obtain ⟨xb,Mp,OG⟩:=dc (arr:=b) (i:=LI-1) 0x1;by_cases hg:g>1
    case' pos=>rw [if_pos hg]
    case' neg=>rw [if_neg hg]
    all_goals
     refine wpS_bind (tJ fun L' NP=>?_);have LP:=hS2.trans NP;refine wpS_bind (a9 Mp ?_);refine wpS_bind (lE hA (LP.kind.trans hk) (pb _ OG) 0x1 pa (fun i j x y q1 q2 q3=>Sa i j x y (Lo _) q2 0x1) 0x1 fun Nk w1 w2 w3=>?_);dsimp only;by_cases hk0:LZ-Nk>0
     ·rw [if_pos hk0];have NW:MH key a.toList b.toList (out++(a.extract Nk LZ).reverse).reverse.toList (a.toList.take Nk) (b.toList.take LI):=by
       have er:(out++(a.extract Nk LZ).reverse).reverse.toList=(a.extract Nk LZ).toList++out.reverse.toList:=by simp
       rw [er];refine MH.a (by rw [<-jW 0x1]; exact L6.mi) fun x hx y hy=>?_;obtain ⟨i,i1,i2,i3,ei⟩:=eA hx;obtain ⟨j,j1,j2,ej⟩:=iG hy;exact (Sb j (LI-1) y xb (Lo _) 0x1 0x1 ej Mp).trans (Le.of_lt (w3 i x 0x1 0x1 ei))
      by_cases e1:(Nk==0)=true
      ·rw [if_pos e1];exact wpS_pure ⟨LP,.inl ⟨_,_,rfl,LK _ _ _ NW (.inl (by simpa using e1))⟩⟩
      rw [if_neg e1];have e1':Nk≠0:=by simpa using e1
      have low:∀z,0<Nk->a[Nk-1]?=some z->Le key z xb:=fun z _ ez=>w2 _ z (Lo _) 0x1 ez;have gr:Nk+LI<=Oo+Om:=by lia
      replace q1:0<Nk:=by lia
      replace q2:Nk<=a.size:=by lia
      clear w2 w3 e1;generalize out++(a.extract Nk LZ).reverse=out1 at *;generalize Nk=na1 at *;obtain ⟨L5,LJ,M4⟩:=dc (arr:=a) (i:=na1-1) 0x1;refine wpS_bind (a9 Mp ?_);have LS:=Md out1 na1 LI xb NW 0x1 q2 Mp low;by_cases e3:(LI-1==1)=true
      ·rw [if_pos e3];exact wpS_pure ⟨LP,.inl ⟨_,_,rfl,Ma _ _ _ LS (by simpa using e3)⟩⟩
      rw [if_neg e3];have e3':LI-1≠1:=by simpa using e3
      refine wpS_bind (a9 LJ ?_);refine wpS_bind (gJ hA (LP.kind.trans hk) (pa _ M4) 0x1 pb (fun i j x y q1 q2 q3=>Sb i j x y (Lo _) q2 0x1) 0x1 fun at2 u1 u2 u3=>?_);dsimp only;by_cases hk2:LI-1-at2>0
      ·rw [if_pos hk2];have Mw:MH key a.toList b.toList (out1.push xb++(b.extract at2 (LI-1)).reverse).reverse.toList (a.toList.take na1) (b.toList.take at2):=by
        have er:(out1.push xb++(b.extract at2 (LI-1)).reverse).reverse.toList=(b.extract at2 (LI-1)).toList++(out1.push xb).reverse.toList:=by simp
        rw [er];refine MH.b (by rw [<-jW 0x1]; exact LS) fun x hx y hy=>?_;obtain ⟨i,i1,i2,i3,ei⟩:=eA hx;obtain ⟨j,j1,j2,ej⟩:=iG hy;exact (Sa j (na1-1) y L5 (Lo _) 0x1 0x1 ej LJ).trans (u3 i x 0x1 0x1 ei)
       by_cases e4:(at2==1)=true
       ·rw [if_pos e4];exact wpS_pure ⟨LP,.inl ⟨_,_,rfl,Ma _ _ _ Mw (by simpa using e4)⟩⟩
       rw [if_neg e4];have e4':at2≠1:=by simpa using e4
       by_cases e5:(at2==0)=true
       ·rw [if_pos e5];exact wpS_pure ⟨LP,.inl ⟨_,_,rfl,LK _ _ _ Mw (.inr (by simpa using e5))⟩⟩
       rw [if_neg e5];have e5':at2≠0:=by simpa using e5
       have Nb:∀z,0<at2->b[at2-1]?=some z->Le key z L5:=fun z _ ez=>Le.of_lt (u2 _ z (Lo _) 0x1 ez);have Na:na1+at2<=Oo+Om:=by lia
       have gtz:1<at2:=by lia
       have OL:at2<=b.size:=by lia
       clear u2 u3 e4 e5;generalize out1.push xb++(b.extract at2 (LI-1)).reverse=out2 at *;generalize at2=nbz at *;refine wpS_bind (a9 LJ ?_);have Mn:=LX out2 na1 nbz L5 Mw q1 0x1 LJ Nb;by_cases d1:(na1-1==0)=true
       ·rw [if_pos d1];exact wpS_pure ⟨LP,.inl ⟨_,_,rfl,LK _ _ _ Mn (.inl (by simpa using d1))⟩⟩
       rw [if_neg d1];have OF:na1-1≠0:=by simpa using d1
       have Mr:HiA key a b (out2.push L5) (na1-1) nbz:=⟨Mn,0x1,0x1,0x1,0x1⟩;split
       ·exact wpS_pure ⟨LP,.inr ⟨_,_,_,_,_,_,rfl,Mr,0x1⟩⟩
       ·exact wpS_pure ⟨LP,_,_,_,_,_,_,rfl,Mr,0x1⟩
      ·rw [if_neg hk2];have Mw:=LS;have Nb:∀z,0<LI-1->b[LI-1-1]?=some z->Le key z L5:=fun z _ ez=>Le.of_lt (u2 _ z (Lo _) 0x1 ez);have Na:na1+(LI-1)<=Oo+Om:=by lia
       have gtz:1<LI-1:=by lia
       have OL:LI-1<=b.size:=by lia
       clear u2 u3 LS hk2 u1;generalize out1.push xb=out2 at *;generalize LI-1=nbz at *;refine wpS_bind (a9 LJ ?_);have Mn:=LX out2 na1 nbz L5 Mw q1 0x1 LJ Nb;by_cases d1:(na1-1==0)=true
       ·rw [if_pos d1];exact wpS_pure ⟨LP,.inl ⟨_,_,rfl,LK _ _ _ Mn (.inl (by simpa using d1))⟩⟩
       rw [if_neg d1];have OF:na1-1≠0:=by simpa using d1
       have Mr:HiA key a b (out2.push L5) (na1-1) nbz:=⟨Mn,0x1,0x1,0x1,0x1⟩;split
       ·exact wpS_pure ⟨LP,.inr ⟨_,_,_,_,_,_,rfl,Mr,0x1⟩⟩
       ·exact wpS_pure ⟨LP,_,_,_,_,_,_,rfl,Mr,0x1⟩
     ·rw [if_neg hk0];have NW:=L6.mi;have low:∀z,0<LZ->a[LZ-1]?=some z->Le key z xb:=fun z _ ez=>w2 _ z (Lo _) 0x1 ez;have gr:LZ+LI<=Oo+Om:=hyy;clear w2 w3 hk0 w1;generalize out=out1 at *;generalize LZ=na1 at *;obtain ⟨L5,LJ,M4⟩:=dc (arr:=a) (i:=na1-1) 0x1;refine wpS_bind (a9 Mp ?_);have LS:=Md out1 na1 LI xb NW 0x1 q2 Mp low;by_cases e3:(LI-1==1)=true
      ·rw [if_pos e3];exact wpS_pure ⟨LP,.inl ⟨_,_,rfl,Ma _ _ _ LS (by simpa using e3)⟩⟩
      rw [if_neg e3];have e3':LI-1≠1:=by simpa using e3
      refine wpS_bind (a9 LJ ?_);refine wpS_bind (gJ hA (LP.kind.trans hk) (pa _ M4) 0x1 pb (fun i j x y q1 q2 q3=>Sb i j x y (Lo _) q2 0x1) 0x1 fun at2 u1 u2 u3=>?_);dsimp only;by_cases hk2:LI-1-at2>0
      ·rw [if_pos hk2];have Mw:MH key a.toList b.toList (out1.push xb++(b.extract at2 (LI-1)).reverse).reverse.toList (a.toList.take na1) (b.toList.take at2):=by
        have er:(out1.push xb++(b.extract at2 (LI-1)).reverse).reverse.toList=(b.extract at2 (LI-1)).toList++(out1.push xb).reverse.toList:=by simp
        rw [er];refine MH.b (by rw [<-jW 0x1]; exact LS) fun x hx y hy=>?_;obtain ⟨i,i1,i2,i3,ei⟩:=eA hx;obtain ⟨j,j1,j2,ej⟩:=iG hy;exact (Sa j (na1-1) y L5 (Lo _) 0x1 0x1 ej LJ).trans (u3 i x 0x1 0x1 ei)
       by_cases e4:(at2==1)=true
       ·rw [if_pos e4];exact wpS_pure ⟨LP,.inl ⟨_,_,rfl,Ma _ _ _ Mw (by simpa using e4)⟩⟩
       rw [if_neg e4];have e4':at2≠1:=by simpa using e4
       by_cases e5:(at2==0)=true
       ·rw [if_pos e5];exact wpS_pure ⟨LP,.inl ⟨_,_,rfl,LK _ _ _ Mw (.inr (by simpa using e5))⟩⟩
       rw [if_neg e5];have e5':at2≠0:=by simpa using e5
       have Nb:∀z,0<at2->b[at2-1]?=some z->Le key z L5:=fun z _ ez=>Le.of_lt (u2 _ z (Lo _) 0x1 ez);have Na:na1+at2<=Oo+Om:=by lia
       have gtz:1<at2:=by lia
       have OL:at2<=b.size:=by lia
       clear u2 u3 e4 e5;generalize out1.push xb++(b.extract at2 (LI-1)).reverse=out2 at *;generalize at2=nbz at *;refine wpS_bind (a9 LJ ?_);have Mn:=LX out2 na1 nbz L5 Mw q1 0x1 LJ Nb;by_cases d1:(na1-1==0)=true
       ·rw [if_pos d1];exact wpS_pure ⟨LP,.inl ⟨_,_,rfl,LK _ _ _ Mn (.inl (by simpa using d1))⟩⟩
       rw [if_neg d1];have OF:na1-1≠0:=by simpa using d1
       have Mr:HiA key a b (out2.push L5) (na1-1) nbz:=⟨Mn,0x1,0x1,0x1,0x1⟩;split
       ·exact wpS_pure ⟨LP,.inr ⟨_,_,_,_,_,_,rfl,Mr,0x1⟩⟩
       ·exact wpS_pure ⟨LP,_,_,_,_,_,_,rfl,Mr,0x1⟩
      ·rw [if_neg hk2];have Mw:=LS;have Nb:∀z,0<LI-1->b[LI-1-1]?=some z->Le key z L5:=fun z _ ez=>Le.of_lt (u2 _ z (Lo _) 0x1 ez);have Na:na1+(LI-1)<=Oo+Om:=by lia
       have gtz:1<LI-1:=by lia
       have OL:LI-1<=b.size:=by lia
       clear u2 u3 LS hk2 u1;generalize out1.push xb=out2 at *;generalize LI-1=nbz at *;refine wpS_bind (a9 LJ ?_);have Mn:=LX out2 na1 nbz L5 Mw q1 0x1 LJ Nb;by_cases d1:(na1-1==0)=true
       ·rw [if_pos d1];exact wpS_pure ⟨LP,.inl ⟨_,_,rfl,LK _ _ _ Mn (.inl (by simpa using d1))⟩⟩
       rw [if_neg d1];have OF:na1-1≠0:=by simpa using d1
       have Mr:HiA key a b (out2.push L5) (na1-1) nbz:=⟨Mn,0x1,0x1,0x1,0x1⟩;split
       ·exact wpS_pure ⟨LP,.inr ⟨_,_,_,_,_,_,rfl,Mr,0x1⟩⟩
       ·exact wpS_pure ⟨LP,_,_,_,_,_,_,rfl,Mr,0x1⟩
end
noncomputable def kA (key:Keyed->List Int) (arr:Array Keyed) (i:Nat):List Int:=match arr[i]? with
 |some x=>key x
 |none=>[]
structure Fr (lo hi:Nat) (st D':SortSt):Prop where
 kind:kindOf D'=kindOf st
 pend:pendingOf D'=pendingOf st
 failed:failedOf D'=failedOf st
 perm:(arrOf D').Perm (arrOf st)
 same:∀i,(i<lo\/hi<=i)->(arrOf D')[i]?=(arrOf st)[i]?
theorem Fr.refl {lo hi:Nat} (st:SortSt):Fr lo hi st st:=⟨rfl,rfl,rfl,Array.Perm.refl _,fun _ _=>rfl⟩
theorem Fr.trans {lo hi:Nat} {a b c:SortSt} (h1:Fr lo hi a b) (h2:Fr lo hi b c):Fr lo hi a c:=
 ⟨h2.kind.trans h1.kind,h2.pend.trans h1.pend,h2.failed.trans h1.failed,h2.perm.trans h1.perm,fun i hi=>(h2.same i hi).trans (h1.same i hi)⟩
theorem Fr.size {lo hi:Nat} {a b:SortSt} (h:Fr lo hi a b):(arrOf b).size=(arrOf a).size:=h.perm.size_eq
section
variable {key:Keyed->List Int}
variable {arr:Array Keyed} {i:Nat}
theorem rh {x:Keyed} (h:arr[i]?=some x):kA key arr i=key x:=by unfold kA; rw [h]
variable {a b:Array Keyed} {j:Nat}
theorem j7 (h:a[i]?=b[j]?):kA key a i=kA key b j:=by unfold kA; rw [h]
def wm (key:Keyed->List Int) (arr:Array Keyed) (lo hi:Nat):Prop:=∀i j,lo<=i->i<=j->j<hi->ll (kA key arr j) (kA key arr i)=false
def uW (key:Keyed->List Int) (arr:Array Keyed) (lo hi:Nat):Prop:=∀i j,lo<=i->i<=j->j<hi->ll (kA key arr i) (kA key arr j)=false
variable {lo hi:Nat}
theorem wm.seg (h:wm key arr lo hi):fq key arr lo hi:=fun i j x y h1 h2 h3 ex ey=>by
 have:=h i j h1 h2 h3;rw [rh ex,rh ey] at this;exact this
theorem fq.up (h:fq key arr lo hi) (hz:hi<=arr.size):wm key arr lo hi:=fun i j h1 h2 h3=>by
 obtain ⟨x,ex,_⟩:=dc (arr:=arr) (i:=i) 0x1;obtain ⟨y,ey,_⟩:=dc (arr:=arr) (i:=j) 0x1;rw [rh ex,rh ey];exact h i j x y h1 h2 h3 ex ey
theorem fq.congr (h:fq key a lo hi) (e:∀i,lo<=i->i<hi->b[i]?=a[i]?):fq key b lo hi:=fun i j x y h1 h2 h3 ex ey=>
 h i j x y h1 h2 h3 (by rw [<-e i h1 0x1]; exact ex) (by rw [<-e j 0x1 h3]; exact ey)
theorem wm.step {x:Nat} (h:wm key arr lo x) (hl:lo<x) (c:ll (kA key arr x) (kA key arr (x-1))=false):wm key arr lo (x+1):=fun i j h1 h2 h3=>by
 by_cases hj:j<x
 ·exact h i j h1 h2 hj
 ·have:j=x:=by lia
  subst this;by_cases hi:i=j
  ·subst hi; exact eH _
  ·exact gQ (h i (j-1) h1 0x1 0x1) c
theorem uW.step {x:Nat} (h:uW key arr lo x) (hl:lo<x) (c:ll (kA key arr (x-1)) (kA key arr x)=false):uW key arr lo (x+1):=fun i j h1 h2 h3=>by
 by_cases hj:j<x
 ·exact h i j h1 h2 hj
 ·have:j=x:=by lia
  subst this;by_cases hi:i=j
  ·subst hi; exact eH _
  ·exact gQ c (h i (j-1) h1 0x1 0x1)
theorem uW.congr (h:uW key a lo hi) (e:∀k,kA key b k=kA key a k):uW key b lo hi:=fun i j h1 h2 h3=>by rw [e,e]; exact h i j h1 h2 h3
theorem iS (hj:j<=arr.size) (k:Nat):kA key (mirror arr i j ((j-i) / 2)) k=if i<=k/\k<j then kA key arr (i+j-1-k) else kA key arr k:=by
 have e:=getElem?_mirror_all (xs:=arr) (i:=i) hj k;split
 ·rename_i h; rw [if_pos h] at e; exact j7 e
 ·rename_i h; rw [if_neg h] at e; exact j7 e
theorem eU (hj:j<=arr.size) (h:∀a,i<=a->a<j->kA key arr a=kA key arr (j-1)) (k:Nat):kA key (mirror arr i j ((j-i) / 2)) k=kA key arr k:=by
 rw [iS hj];split
 ·rw [h _ 0x1 0x1,h k 0x1 0x1]
 ·rfl
theorem m8 {k d:Nat} (hk:k<arr.size) (hd:d<=k) (m:Nat):kA key (bubble arr k d) m=if m=k-d then kA key arr k else if k-d<m/\m<=k then kA key arr (m-1) else kA key arr m:=by
 have e:=getElem?_bubble (xs:=arr) hk d hd m;split
 ·rename_i h; rw [if_pos h] at e; exact j7 e
 ·rename_i h; rw [if_neg h] at e
  split
  ·rename_i h2; rw [if_pos h2] at e; exact j7 e
  ·rename_i h2; rw [if_neg h2] at e; exact j7 e
theorem Fr.mirror {lo hi i j:Nat} {st:SortSt} (h1:lo<=i) (h2:j<=hi) (hz:j<=(arrOf st).size):Fr lo hi st (setArr st (mirror (arrOf st) i j ((j-i) / 2))):=
 ⟨rfl,rfl,rfl,mirror_perm _ _ _ _,fun k hk=>by
  show (PyProof.Rows.mirror (arrOf st) i j ((j-i) / 2))[k]?=(arrOf st)[k]?;rw [getElem?_mirror_all hz,if_neg 0x1]⟩
theorem Fr.bubble {lo hi k d:Nat} {st:SortSt} (h1:lo+d<=k) (h2:k<hi) (hz:k<(arrOf st).size):Fr lo hi st (setArr st (bubble (arrOf st) k d)):=
 ⟨rfl,rfl,rfl,bubble_perm _ _ _,fun m hm=>by
  show (PyProof.Rows.bubble (arrOf st) k d)[m]?=(arrOf st)[m]?;rw [getElem?_bubble hz d 0x1,if_neg 0x1,if_neg 0x1]⟩
end
section
variable {M:Model} {A:Around} {E:Value->Shared->Prop} {s:Shared} {κ:SortKind} {key:Keyed->List Int} {P:Keyed->Prop}
variable {st:SortSt} {i j:Nat}
theorem lA {Q:Unit->SortSt->Prop} (h:Q () (setArr st (mirror (arrOf st) i j ((j-i) / 2)))):wpS M A E s (reverseSlice' i j) Q st:=by
 rw [reverseSlice'_eq]; exact wpS_modify h
theorem EC {Q:Unit->SortSt->Prop} (h:Q () (setArr st (bubble (arrOf st) i (i-j)))):wpS M A E s (moveDown' i j) Q st:=by
 rw [moveDown'_eq]; exact wpS_modify h
theorem gv (hA:oj M A E s κ key P) {Q:Option Bool->SortSt->Prop} (hk:kindOf st=κ) (hP:∀x∈(arrOf st).toList,P x) (hi:i<(arrOf st).size) (hj:j<(arrOf st).size)
  (h:Q (some (ll (kA key (arrOf st) i) (kA key (arrOf st) j))) st):wpS M A E s (ltAt' i j) Q st:=by
 obtain ⟨x,ex,mx⟩:=dc (arr:=arrOf st) hi;obtain ⟨y,ey,my⟩:=dc (arr:=arrOf st) hj;rw [rh ex,rh ey] at h;rw [ltAt'_eq];refine wpS_bind (wpS_get ?_);exact wpS_bind (a9 ex (wpS_bind (a9 ey (hA x y st _ hk (hP x mx) (hP y my) h))))
variable {lo:Nat}
theorem Fr.allP {hi:Nat} {a b:SortSt} (h:Fr lo hi a b) (hP:∀x∈(arrOf a).toList,P x):∀x∈(arrOf b).toList,P x:=fun x hx=>hP x ((Array.perm_iff_toList_perm.mp h.perm).mem_iff.mp hx)
theorem vZ (hA:oj M A E s κ key P) {LA:Nat} {Q:Option Nat->SortSt->Prop} (hk:kindOf st=κ) (hP:∀x∈(arrOf st).toList,P x) (h1:1<=LA) (hz:lo+LA<=(arrOf st).size)
  (h:∀n D',1<=n->n<=LA->Fr lo (lo+LA) st D'->fq key (arrOf D') lo (lo+n)->Q (some n) D'):wpS M A E s (countRun' lo LA) Q st:=by
 refine wpS_bind (wpS_mono (wpS_forRange (I:=fun x c D'=>D'=st/\c=(none,x)/\wm key (arrOf st) lo (lo+x))
  (Q:=fun c D'=>D'=st/\∃n,c=(none,n)/\1<=n/\n<=LA/\wm key (arrOf st) lo (lo+n)/\(n=LA\/ll (kA key (arrOf st) (lo+n)) (kA key (arrOf st) (lo+n-1))=true)) ?_ ?_
  ⟨rfl,rfl,fun i j q1 q2 q3=>by rw [show i=j by lia]; exact eH _⟩) ?_)
 ·rintro x c D' q1 q2 ⟨rfl,rfl,hu⟩;dsimp only;refine wpS_bind (gv hA hk hP 0x1 0x1 ?_);dsimp only;cases c1:ll (kA key (arrOf D') (lo+x)) (kA key (arrOf D') (lo+x-1)) with
  |true=>exact wpS_pure ⟨rfl,x,rfl,q1,0x1,hu,.inr c1⟩
  |false=>exact wpS_pure ⟨rfl,rfl,hu.step 0x1 c1⟩
 ·rintro c D' ⟨rfl,rfl,hu⟩;rw [show max 1 LA=LA by lia] at hu ⊢;exact ⟨rfl,LA,rfl,h1,K2 _,hu,.inl rfl⟩
 rintro c D' ⟨rfl,n,rfl,n1,n2,hu,hor⟩;dsimp only;by_cases e1:(n==LA)=true
 ·rw [if_pos e1];exact wpS_pure (h n _ n1 n2 (Fr.refl _) hu.seg)
 rw [if_neg e1];have e1':n≠LA:=by simpa using e1
 have LM:=hor.resolve_left e1';by_cases e2:n>1
 ·rw [if_pos e2];refine wpS_bind (gv hA hk hP 0x1 0x1 ?_);dsimp only;cases c1:ll (kA key (arrOf D') lo) (kA key (arrOf D') (lo+n-1)) with
  |true=>exact wpS_pure (h n _ n1 n2 (Fr.refl _) hu.seg)
  |false=>
   rw [if_neg 0x4];have N7:∀a,lo<=a->a<lo+n->kA key (arrOf D') a=kA key (arrOf D') (lo+n-1):=fun a q1 q2=>
    jQ (gQ c1 (hu lo a (K2 _) q1 q2)) (hu a (lo+n-1) q1 0x1 0x1)
   have eqk:=eU (key:=key) (arr:=arrOf D') (i:=lo) (j:=lo+n) 0x1 N7;refine wpS_bind (lA ?_);have F0:Fr lo (lo+LA) D' (setArr D' (mirror (arrOf D') lo (lo+n) ((lo+n-lo) / 2))):=Fr.mirror (K2 _) 0x1 0x1;have D0:uW key (arrOf (setArr D' (mirror (arrOf D') lo (lo+n) ((lo+n-lo) / 2)))) lo (lo+(n+1)):=by
    refine uW.congr (a:=arrOf D') (fun i j q1 q2 q3=>?_) eqk;by_cases hj:j=lo+n
    ·subst hj;by_cases hi:i=lo+n
     ·subst hi; exact eH _
     ·rw [N7 i q1 0x1]; exact fQ LM
    ·rw [N7 i q1 0x1,N7 j 0x1 0x1]; exact eH _
   generalize setArr D' (mirror (arrOf D') lo (lo+n) ((lo+n-lo) / 2))=st0 at *;have K0:=F0.kind.trans hk;have Z0:=F0.size;refine wpS_bind (wpS_lift (wpAny_rule ⟨rfl,?_⟩));refine wpS_bind (wpS_mono (wpS_forRange
    (I:=fun x c G'=>∃q,c=(none,x,q)/\Fr lo (lo+LA) D' G'/\uW key (arrOf G') lo (lo+x)/\q+1<=x/\∀i,lo+x-(q+1)<=i->i<lo+x->kA key (arrOf G') i=kA key (arrOf G') (lo+x-1))
    (Q:=fun c G'=>∃m q,c=(none,m,q)/\n+1<=m/\m<=LA/\Fr lo (lo+LA) D' G'/\uW key (arrOf G') lo (lo+m)/\q+1<=m/\∀i,lo+m-(q+1)<=i->i<lo+m->kA key (arrOf G') i=kA key (arrOf G') (lo+m-1))
    ?_ ?_ ⟨0,rfl,F0,D0,0x1,fun i q1 q2=>by rw [show i=lo+(n+1)-1 by lia]⟩) ?_)
   ·rintro x c G' x1 x2 ⟨q,rfl,F1,D1,hq,heq⟩;dsimp only;have K1:=F1.kind.trans hk;have Z1:=F1.size;refine wpS_bind (gv hA K1 (F1.allP hP) 0x1 0x1 ?_);dsimp only;cases c2:ll (kA key (arrOf G') (lo+x)) (kA key (arrOf G') (lo+x-1)) with
    |true=>
     rw [if_pos rfl];have D2:uW key (arrOf G') lo (lo+x+1):=D1.step 0x1 (fQ c2);by_cases hq0:q>0
     ·rw [if_pos hq0];refine wpS_bind (lA (wpS_pure ⟨0,rfl,F1.trans (Fr.mirror 0x1 0x1 0x1),?_,0x1,fun i q1 q2=>by rw [show i=lo+(x+1)-1 by lia]⟩));exact D2.congr (eU 0x1 heq)
     ·rw [if_neg hq0];exact wpS_pure ⟨0,rfl,F1,D2,0x1,fun i q1 q2=>by rw [show i=lo+(x+1)-1 by lia]⟩
    |false=>
     rw [if_neg 0x4];refine wpS_bind (gv hA K1 (F1.allP hP) 0x1 0x1 ?_);dsimp only;cases c3:ll (kA key (arrOf G') (lo+x-1)) (kA key (arrOf G') (lo+x)) with
     |true=>exact wpS_pure ⟨x,q,rfl,x1,0x1,F1,D1,hq,heq⟩
     |false=>
      have ex:kA key (arrOf G') (lo+x-1)=kA key (arrOf G') (lo+x):=jQ c3 c2;refine wpS_pure ⟨q+1,rfl,F1,D1.step 0x1 c3,0x1,fun i q1 q2=>?_⟩;rw [show lo+(x+1)-1=lo+x by lia];by_cases hi:i=lo+x
      ·rw [hi]
      ·rw [<-ex]; exact heq i 0x1 0x1
   ·rintro c G' ⟨q,rfl,F1,D1,hq,heq⟩;rw [show max (n+1) LA=LA by lia] at *;exact ⟨LA,q,rfl,0x1,K2 _,F1,D1,hq,heq⟩
   rintro c G' ⟨m,q,rfl,m1,m2,F1,D1,hq,heq⟩;dsimp only;have Z1:=F1.size;have last:∀LH,Fr lo (lo+LA) D' LH->uW key (arrOf LH) lo (lo+m)->∀L',L'=setArr LH (mirror (arrOf LH) lo (lo+m) ((lo+m-lo) / 2))->Fr lo (lo+LA) D' L'/\wm key (arrOf L') lo (lo+m):=fun LH F2 D2 L' e3=>by
    have Z2:=F2.size;subst e3;refine ⟨F2.trans (Fr.mirror (K2 _) 0x1 0x1),fun i j q1 q2 q3=>?_⟩;show ll (kA key (mirror (arrOf LH) lo (lo+m) ((lo+m-lo) / 2)) j) (kA key (mirror (arrOf LH) lo (lo+m) ((lo+m-lo) / 2)) i)=false;rw [iS 0x1,iS 0x1,if_pos 0x1,if_pos 0x1];exact D2 _ _ 0x1 0x1 0x1
   by_cases hq0:q>0
   case' pos=>
    rw [if_pos hq0];refine wpS_bind (lA ?_);obtain ⟨F3,U3⟩:=last (setArr G' (mirror (arrOf G') (lo+m-(q+1)) (lo+m) ((lo+m-(lo+m-(q+1))) / 2))) (F1.trans (Fr.mirror 0x1 0x1 0x1)) (D1.congr (eU 0x1 heq)) _ rfl
   case' neg=>
    rw [if_neg hq0];obtain ⟨F3,U3⟩:=last G' F1 D1 _ rfl
   all_goals
    refine wpS_bind (lA ?_);have Z3:=F3.size;refine wpS_bind (wpS_mono (wpS_forRange (I:=fun x c LN=>LN=_/\c=(none,x)/\wm key (arrOf LN) lo (lo+x))
     (Q:=fun c LN=>Fr lo (lo+LA) D' LN/\∃n,c=(none,n)/\1<=n/\n<=LA/\wm key (arrOf LN) lo (lo+n)) ?_ ?_ ⟨rfl,rfl,U3⟩) ?_)
    ·rintro x c LN q1 q2 ⟨rfl,rfl,hu⟩;dsimp only;refine wpS_bind (gv hA (F3.kind.trans hk) (F3.allP hP) 0x1 0x1 ?_);split
     ·rename_i b eb;cases eb;split
      ·exact wpS_pure ⟨F3,x,rfl,0x1,0x1,hu⟩
      ·rename_i c5;exact wpS_pure ⟨rfl,rfl,hu.step 0x1 (by simpa using c5)⟩
     ·rename_i eb;exact absurd rfl (eb _)
    ·rintro c LN ⟨rfl,rfl,hu⟩;rw [show max m LA=LA by lia] at hu ⊢;exact ⟨F3,LA,rfl,h1,K2 _,hu⟩
    ·rintro c LN ⟨F4,n',rfl,q1,q2,hu⟩;exact wpS_pure (h n' _ q1 q2 F4 hu.seg)
 ·rw [if_neg e2];have F0:Fr lo (lo+LA) D' D':=Fr.refl _;have D0:uW key (arrOf D') lo (lo+(n+1)):=fun i j q1 q2 q3=>by
   by_cases hi:i=j
   ·subst hi; exact eH _
   ·have e3:i=lo+n-1:=by lia
    have e4:j=lo+n:=by lia
    subst e3; subst e4
    exact fQ LM
  obtain ⟨st0,OS⟩:∃x,x=D':=⟨_,rfl⟩;have F0:Fr lo (lo+LA) D' st0:=by rw [OS]; exact Fr.refl _
  rw [<-OS] at D0;rw [show wpS M A E s _ Q D'=wpS M A E s _ Q st0 from by rw [OS]];have K0:=F0.kind.trans hk;have Z0:=F0.size;refine wpS_bind (wpS_lift (wpAny_rule ⟨rfl,?_⟩));refine wpS_bind (wpS_mono (wpS_forRange
   (I:=fun x c G'=>∃q,c=(none,x,q)/\Fr lo (lo+LA) D' G'/\uW key (arrOf G') lo (lo+x)/\q+1<=x/\∀i,lo+x-(q+1)<=i->i<lo+x->kA key (arrOf G') i=kA key (arrOf G') (lo+x-1))
   (Q:=fun c G'=>∃m q,c=(none,m,q)/\n+1<=m/\m<=LA/\Fr lo (lo+LA) D' G'/\uW key (arrOf G') lo (lo+m)/\q+1<=m/\∀i,lo+m-(q+1)<=i->i<lo+m->kA key (arrOf G') i=kA key (arrOf G') (lo+m-1))
   ?_ ?_ ⟨0,rfl,F0,D0,0x1,fun i q1 q2=>by rw [show i=lo+(n+1)-1 by lia]⟩) ?_)
  ·rintro x c G' x1 x2 ⟨q,rfl,F1,D1,hq,heq⟩;dsimp only;have K1:=F1.kind.trans hk;have Z1:=F1.size;refine wpS_bind (gv hA K1 (F1.allP hP) 0x1 0x1 ?_);dsimp only;cases c2:ll (kA key (arrOf G') (lo+x)) (kA key (arrOf G') (lo+x-1)) with
   |true=>
    rw [if_pos rfl];have D2:uW key (arrOf G') lo (lo+x+1):=D1.step 0x1 (fQ c2);by_cases hq0:q>0
    ·rw [if_pos hq0];refine wpS_bind (lA (wpS_pure ⟨0,rfl,F1.trans (Fr.mirror 0x1 0x1 0x1),?_,0x1,fun i q1 q2=>by rw [show i=lo+(x+1)-1 by lia]⟩));exact D2.congr (eU 0x1 heq)
    ·rw [if_neg hq0];exact wpS_pure ⟨0,rfl,F1,D2,0x1,fun i q1 q2=>by rw [show i=lo+(x+1)-1 by lia]⟩
   |false=>
    rw [if_neg 0x4];refine wpS_bind (gv hA K1 (F1.allP hP) 0x1 0x1 ?_);dsimp only;cases c3:ll (kA key (arrOf G') (lo+x-1)) (kA key (arrOf G') (lo+x)) with
    |true=>exact wpS_pure ⟨x,q,rfl,x1,0x1,F1,D1,hq,heq⟩
    |false=>
     have ex:kA key (arrOf G') (lo+x-1)=kA key (arrOf G') (lo+x):=jQ c3 c2;refine wpS_pure ⟨q+1,rfl,F1,D1.step 0x1 c3,0x1,fun i q1 q2=>?_⟩;rw [show lo+(x+1)-1=lo+x by lia];by_cases hi:i=lo+x
     ·rw [hi]
     ·rw [<-ex]; exact heq i 0x1 0x1
  ·rintro c G' ⟨q,rfl,F1,D1,hq,heq⟩;rw [show max (n+1) LA=LA by lia] at *;exact ⟨LA,q,rfl,0x1,K2 _,F1,D1,hq,heq⟩
  rintro c G' ⟨m,q,rfl,m1,m2,F1,D1,hq,heq⟩;dsimp only;have Z1:=F1.size;have last:∀LH,Fr lo (lo+LA) D' LH->uW key (arrOf LH) lo (lo+m)->∀L',L'=setArr LH (mirror (arrOf LH) lo (lo+m) ((lo+m-lo) / 2))->Fr lo (lo+LA) D' L'/\wm key (arrOf L') lo (lo+m):=fun LH F2 D2 L' e3=>by
   have Z2:=F2.size;subst e3;refine ⟨F2.trans (Fr.mirror (K2 _) 0x1 0x1),fun i j q1 q2 q3=>?_⟩;show ll (kA key (mirror (arrOf LH) lo (lo+m) ((lo+m-lo) / 2)) j) (kA key (mirror (arrOf LH) lo (lo+m) ((lo+m-lo) / 2)) i)=false;rw [iS 0x1,iS 0x1,if_pos 0x1,if_pos 0x1];exact D2 _ _ 0x1 0x1 0x1
  by_cases hq0:q>0
  case' pos=>
   rw [if_pos hq0];refine wpS_bind (lA ?_);obtain ⟨F3,U3⟩:=last (setArr G' (mirror (arrOf G') (lo+m-(q+1)) (lo+m) ((lo+m-(lo+m-(q+1))) / 2))) (F1.trans (Fr.mirror 0x1 0x1 0x1)) (D1.congr (eU 0x1 heq)) _ rfl
  case' neg=>
   rw [if_neg hq0];obtain ⟨F3,U3⟩:=last G' F1 D1 _ rfl
  all_goals
   refine wpS_bind (lA ?_);have Z3:=F3.size;refine wpS_bind (wpS_mono (wpS_forRange (I:=fun x c LN=>LN=_/\c=(none,x)/\wm key (arrOf LN) lo (lo+x))
    (Q:=fun c LN=>Fr lo (lo+LA) D' LN/\∃n,c=(none,n)/\1<=n/\n<=LA/\wm key (arrOf LN) lo (lo+n)) ?_ ?_ ⟨rfl,rfl,U3⟩) ?_)
   ·rintro x c LN q1 q2 ⟨rfl,rfl,hu⟩;dsimp only;refine wpS_bind (gv hA (F3.kind.trans hk) (F3.allP hP) 0x1 0x1 ?_);split
    ·rename_i b eb;cases eb;split
     ·exact wpS_pure ⟨F3,x,rfl,0x1,0x1,hu⟩
     ·rename_i c5;exact wpS_pure ⟨rfl,rfl,hu.step 0x1 (by simpa using c5)⟩
    ·rename_i eb;exact absurd rfl (eb _)
   ·rintro c LN ⟨rfl,rfl,hu⟩;rw [show max m LA=LA by lia] at hu ⊢;exact ⟨F3,LA,rfl,h1,K2 _,hu⟩
   ·rintro c LN ⟨F4,n',rfl,q1,q2,hu⟩;exact wpS_pure (h n' _ q1 q2 F4 hu.seg)
theorem qP (hA:oj M A E s κ key P) {n ok:Nat} {Q:Bool->SortSt->Prop} (hk:kindOf st=κ) (hP:∀x∈(arrOf st).toList,P x) (h1:1<=ok) (hok:ok<=n) (hz:lo+n<=(arrOf st).size)
  (hs:fq key (arrOf st) lo (lo+ok)) (h:∀D',Fr lo (lo+n) st D'->fq key (arrOf D') lo (lo+n)->Q true D'):wpS M A E s (binarySort' lo n ok) Q st:=by
 refine wpS_bind (wpS_mono (wpS_forRange (I:=fun k c D'=>c=(none,())/\Fr lo (lo+n) st D'/\wm key (arrOf D') lo (lo+k))
  (Q:=fun c D'=>c=(none,())/\Fr lo (lo+n) st D'/\wm key (arrOf D') lo (lo+n)) ?_ ?_ ⟨rfl,Fr.refl _,by rw [show max ok 1=ok by lia]; exact hs.up 0x1⟩) ?_)
 ·rintro k c G' k1 k2 ⟨rfl,F1,U1⟩;have Z1:=F1.size;dsimp only;refine wpS_bind (wpS_mono (wpS_forRange (I:=fun x c LH=>LH=G'/\∃l r,c=(none,l,r)/\l<=r/\r<=k/\r-l<=k-x /\
    (∀i,i<l->ll (kA key (arrOf G') (lo+k)) (kA key (arrOf G') (lo+i))=false)/\(∀i,r<=i->i<k->ll (kA key (arrOf G') (lo+k)) (kA key (arrOf G') (lo+i))=true))
   (Q:=fun c LH=>LH=G'/\∃l r,c=(none,l,r)/\l<=k /\
    (∀i,i<l->ll (kA key (arrOf G') (lo+k)) (kA key (arrOf G') (lo+i))=false)/\(∀i,l<=i->i<k->ll (kA key (arrOf G') (lo+k)) (kA key (arrOf G') (lo+i))=true)) ?_ ?_
   ⟨rfl,0,k,rfl,0x1,0x1,0x1,fun i hi=>0x1,fun i h1 h2=>0x1⟩) ?_)
  ·rintro x c LH _ hx ⟨rfl,l,r,rfl,q1,q2,q3,q4,q5⟩;dsimp only;by_cases hlr:l>=r
   ·rw [if_pos hlr];exact wpS_pure ⟨rfl,l,r,rfl,0x1,q4,fun i u1 u2=>q5 i 0x1 u2⟩
   ·rw [if_neg hlr];refine wpS_bind (gv hA (F1.kind.trans hk) (F1.allP hP) 0x1 0x1 ?_);dsimp only;cases c1:ll (kA key (arrOf LH) (lo+k)) (kA key (arrOf LH) (lo+(l+r) / 2)) with
    |true=>exact wpS_pure ⟨rfl,l,(l+r) / 2,rfl,0x1,0x1,0x1,q4,fun i u1 u2=>BQ c1 (U1 _ _ 0x1 0x1 0x1)⟩
    |false=>exact wpS_pure ⟨rfl,(l+r) / 2+1,r,rfl,0x1,0x1,0x1,fun i u1=>gQ (U1 (lo+i) (lo+(l+r) / 2) 0x1 0x1 0x1) c1,q5⟩
  ·rintro c LH ⟨rfl,l,r,rfl,q1,q2,q3,q4,q5⟩;exact ⟨rfl,l,r,rfl,0x1,q4,fun i u1 u2=>q5 i 0x1 u2⟩
  ·rintro c LH ⟨rfl,l,r,rfl,q1,q4,q5⟩;dsimp only;refine wpS_bind (EC (wpS_pure ⟨rfl,F1.trans (Fr.bubble 0x1 0x1 0x1),?_⟩));intro i j u1 u2 u3;have hd:lo+k-(lo+k-(lo+l))=lo+l:=by lia
   have OE:kA key (bubble (arrOf LH) (lo+k) (lo+k-(lo+l))) (lo+l)=kA key (arrOf LH) (lo+k):=by rw [m8 0x1 0x1,hd,if_pos rfl]
   have Ob:∀m,lo+l<m->m<=lo+k->kA key (bubble (arrOf LH) (lo+k) (lo+k-(lo+l))) m=kA key (arrOf LH) (m-1):=fun m w1 w2=>by rw [m8 0x1 0x1,hd,if_neg 0x1,if_pos ⟨w1,w2⟩]
   have at_s:∀m,m<lo+l->kA key (bubble (arrOf LH) (lo+k) (lo+k-(lo+l))) m=kA key (arrOf LH) m:=fun m w1=>by rw [m8 0x1 0x1,hd,if_neg 0x1,if_neg 0x1]
   show ll (kA key (bubble (arrOf LH) (lo+k) (lo+k-(lo+l))) j) (kA key (bubble (arrOf LH) (lo+k) (lo+k-(lo+l))) i)=false;rcases Nat.lt_trichotomy i (lo+l) with hi|hi|hi
   ·rw [at_s i hi];rcases Nat.lt_trichotomy j (lo+l) with hj|hj|hj
    ·rw [at_s j hj]; exact U1 i j u1 u2 0x1
    ·rw [hj,OE];have:=q4 (i-lo) 0x1
     rwa [show lo+(i-lo)=i by lia] at this
    ·rw [Ob j hj 0x1]; exact U1 i (j-1) u1 0x1 0x1
   ·rw [hi,OE];rcases Nat.lt_trichotomy j (lo+l) with hj|hj|hj
    ·lia
    ·rw [hj,OE]; exact eH _
    ·rw [Ob j hj 0x1];have:=q5 (j-1-lo) 0x1 0x1;rw [show lo+(j-1-lo)=j-1 by lia] at this;exact fQ this
   ·rw [Ob i hi 0x1,Ob j 0x1 0x1];exact U1 (i-1) (j-1) 0x1 0x1 0x1
 ·rintro c G' ⟨rfl,F1,U1⟩;rw [show max (max ok 1) n=n by lia] at U1;exact ⟨rfl,F1,U1⟩
 ·rintro c G' ⟨rfl,F1,U1⟩;exact wpS_pure (h G' F1 U1.seg)
end
variable {sa:Nat}
theorem Fd {l:List Keyed} {k:Nat}:∀(n:Nat) (arr:Array Keyed),sa+n+l.length<=arr.size ->
  ((l.zipIdx n).foldl (fun a (x:Keyed×Nat)=>match x with|(p,j)=>a.setIfInBounds (sa+j) p) arr)[k]?=if sa+n<=k/\k<sa+n+l.length then l[k-sa-n]? else arr[k]?:=by
 induction l with
 |nil=>intro n arr _; rw [if_neg 0x4]; rfl
 |cons x r ih=>
  intro n arr hz;simp only [List.length_cons] at hz;rw [List.zipIdx_cons,List.foldl_cons,ih (n+1) _ (by rw [Array.size_setIfInBounds]; lia)];by_cases h1:sa+(n+1)<=k/\k<sa+(n+1)+r.length
  ·rw [if_pos h1,if_pos (by simp only [List.length_cons]; lia)];rw [show k-sa-n=(k-sa-(n+1))+1 by lia,List.getElem?_cons_succ]
  ·rw [if_neg h1,Array.getElem?_setIfInBounds];by_cases h2:sa+n=k
   ·rw [if_pos h2,if_pos 0x1,if_pos (by simp only [List.length_cons]; lia),show k-sa-n=0 by lia];rfl
   ·rw [if_neg h2,if_neg (by simp only [List.length_cons]; lia)]
theorem Am {l:List Keyed}:∀(n:Nat) (arr:Array Keyed),((l.zipIdx n).foldl (fun a (x:Keyed×Nat)=>match x with|(p,j)=>a.setIfInBounds (sa+j) p) arr).size=arr.size:=by
 induction l with
 |nil=>intro n arr; rfl
 |cons x r ih=>intro n arr; rw [List.zipIdx_cons,List.foldl_cons,ih]; exact Array.size_setIfInBounds
variable {key:Keyed->List Int} {lo:Nat}
theorem yO {arr:Array Keyed} {hi:Nat} (h:fq key arr lo hi) (hz:hi<=arr.size):(arr.extract lo hi).toList.Pairwise (Le key):=by
 refine List.pairwise_iff_getElem.mpr fun i j hi hj Oh=>?_;simp at hi hj;have e1:arr[lo+i]?=some ((arr.extract lo _).toList[i]'(by simpa using hi)):=by
  have:lo+i<arr.size:=by lia
  simp [this]
 have e2:arr[lo+j]?=some ((arr.extract lo _).toList[j]'(by simpa using hj)):=by
  have:lo+j<arr.size:=by lia
  simp [this]
 exact h (lo+i) (lo+j) _ _ 0x1 0x1 0x1 e1 e2
theorem GC {arr:Array Keyed} {p q r:Nat} (h1:p<=q) (h2:q<=r) (h3:r<=arr.size):arr.toList=arr.toList.take p++((arr.extract p q).toList++(arr.extract q r).toList)++arr.toList.drop r:=by
 have e1:=jW (arr:=arr) h1;have e2:=jW (arr:=arr) h2;rw [<-List.append_assoc,<-e1,<-e2,List.take_append_drop]
section
variable {M:Model} {A:Around} {E:Value->Shared->Prop} {s:Shared} {κ:SortKind} {key:Keyed->List Int} {P:Keyed->Prop}
theorem GH {st LH:SortSt} {Q:PUnit->SortSt->Prop} (h:Q ⟨⟩ LH):wpS M A E s (set LH:StateT SortSt Sem PUnit) Q st:=by
 unfold wpS; rw [StateT.run_set]; exact K4 ⟨rfl,h⟩
theorem xI (hA:oj M A E s κ key P) {st:SortSt} {i na pw sb nb pw':Nat} {Q:Bool->SortSt->Prop} (hk:kindOf st=κ) (hP:∀x∈(arrOf st).toList,P x) (hf:failedOf st=none)
  (e1:(pendingOf st)[i]?=some (sa,na,pw)) (e2:(pendingOf st)[i+1]?=some (sb,nb,pw')) (Oc:sb=sa+na) (h1:0<na) (h2:0<nb) (hz:sb+nb<=(arrOf st).size)
  (S1:fq key (arrOf st) sa sb) (S2:fq key (arrOf st) sb (sb+nb))
  (h:∀D',kindOf D'=κ->failedOf D'=none->(arrOf D').Perm (arrOf st)->(∀j,(j<sa\/sb+nb<=j)->(arrOf D')[j]?=(arrOf st)[j]?)->fq key (arrOf D') sa (sb+nb) ->
   pendingOf D'=((pendingOf st).setIfInBounds i (sa,na+nb,pw)).eraseIdxIfInBounds (i+1)->Q true D'):wpS M A E s (mergeAt' i) Q st:=by
 refine wpS_bind (wpS_get ?_);rw [e1,e2];dsimp only;have Z:=hz;obtain ⟨b0,eb0,mb0⟩:=dc (arr:=arrOf st) (i:=sb) 0x1;refine wpS_bind (GH ?_);refine wpS_bind (a9 eb0 ?_);have hza:sa+na<=(arrOf st).size:=by lia
 refine wpS_bind (lE hA hk (hP _ mb0) hza hP (by rw [<-Oc]; exact S1) h1 fun k k1 k2 k3=>?_);dsimp only;by_cases c1:(na-k==0)=true
 ·rw [if_pos c1];have c1':na-k=0:=by simpa using c1
  refine wpS_pure (h _ hk hf (Array.Perm.refl _) (fun _ _=>rfl) (fun u v x y q1 q2 q3 ex ey=>?_) rfl);rcases Nat.lt_or_ge v sb with hv|hv
  ·exact S1 u v x y q1 q2 hv ex ey
  ·rcases Nat.lt_or_ge u sb with hu|hu
   ·exact (k2 u x q1 0x1 ex).trans (S2 sb v b0 y (K2 _) hv q3 eb0 ey)
   ·exact S2 u v x y hu q2 q3 ex ey
 rw [if_neg c1];have c1':na-k≠0:=by simpa using c1
 obtain ⟨al,eal,mal⟩:=dc (arr:=arrOf st) (i:=sa+k+(na-k)-1) 0x1;have OV:(arrOf st)[sb-1]?=some al:=by rw [show sb-1=sa+k+(na-k)-1 by lia]; exact eal
 refine wpS_bind (a9 eal ?_);refine wpS_bind (gJ hA hk (hP _ mal) hz hP S2 0x1 fun n n1 n2 n3=>?_);dsimp only;by_cases c2:(n==0)=true
 ·rw [if_pos c2];have c2':n=0:=by simpa using c2
  refine wpS_pure (h _ hk hf (Array.Perm.refl _) (fun _ _=>rfl) (fun u v x y q1 q2 q3 ex ey=>?_) rfl);rcases Nat.lt_or_ge v sb with hv|hv
  ·exact S1 u v x y q1 q2 hv ex ey
  ·rcases Nat.lt_or_ge u sb with hu|hu
   ·exact (S1 u (sb-1) x al q1 0x1 0x1 ex OV).trans (n3 v y 0x1 q3 ey)
   ·exact S2 u v x y hu q2 q3 ex ey
 rw [if_neg c2];have c2':n≠0:=by simpa using c2
 have zx:((arrOf st).extract (sa+k) sb).size=sb-(sa+k):=by rw [Array.size_extract]; lia
 have zy:((arrOf st).extract sb (sb+n)).size=n:=by rw [Array.size_extract]; lia
 have px:∀x∈((arrOf st).extract (sa+k) sb).toList,P x:=fun x hx=>by
  obtain ⟨j,_,_,j3,ej⟩:=eA hx;obtain ⟨_,rfl⟩:=Ln.mp ej;exact hP _ 0x4
 have py:∀x∈((arrOf st).extract sb (sb+n)).toList,P x:=fun x hx=>by
  obtain ⟨j,_,_,j3,ej⟩:=eA hx;obtain ⟨_,rfl⟩:=Ln.mp ej;exact hP _ 0x4
 have sx:((arrOf st).extract (sa+k) sb).toList.Pairwise (Le key):=yO (fun u v x y q1 q2 q3=>S1 u v x y 0x1 q2 q3) 0x1;have sy:((arrOf st).extract sb (sb+n)).toList.Pairwise (Le key):=yO (fun u v x y q1 q2 q3=>S2 u v x y q1 q2 0x1) 0x1;have fst0:∀y,((arrOf st).extract sb (sb+n))[0]?=some y->∀x∈((arrOf st).extract (sa+k) sb).toList,Le key y x:=fun y ey x hx=>by
  rw [Array.getElem?_extract,if_pos 0x1] at ey;have:y=b0:=by
   have e:(arrOf st)[sb+0]?=some y:=ey;rw [Nat.add_zero,eb0] at e; cases e; rfl
  subst this;obtain ⟨j,j1,j2,j3,ej⟩:=eA hx;exact Le.of_lt (k3 j x j1 0x1 ej)
 have lst0:∀z,((arrOf st).extract (sa+k) sb)[((arrOf st).extract (sa+k) sb).size-1]?=some z->∀y∈((arrOf st).extract sb (sb+n)).toList,Le key y z:=fun z ez y hy=>by
  rw [zx,Array.getElem?_extract,if_pos 0x1,show sa+k+(sb-(sa+k)-1)=sb-1 by lia,OV] at ez;cases ez;obtain ⟨j,j1,j2,j3,ej⟩:=eA hy;exact Le.of_lt (n2 j y j1 j2 ej)
 have fin:∀(r:Array Keyed) (G':SortSt),Sm st G'\/True->kindOf G'=κ->failedOf G'=none->arrOf G'=arrOf st->pendingOf G'=((pendingOf st).setIfInBounds i (sa,na+nb,pw)).eraseIdxIfInBounds (i+1) ->
   oP key ((arrOf st).extract (sa+k) sb).toList ((arrOf st).extract sb (sb+n)).toList r.toList ->
   Q (failedOf G').isNone (setArr G' (r.toList.zipIdx.foldl (fun a (x:Keyed×Nat)=>match x with|(p,j)=>a.setIfInBounds (sa+k+j) p) (arrOf G'))):=fun r G' _ K1 F1 A1 P1 hr=>by
  rw [F1];have zr:r.toList.length=sb+n-(sa+k):=by
   have:=hr.1.length_eq;rw [List.length_append,Array.length_toList,Array.length_toList,Array.length_toList,zx,zy] at this;rw [Array.length_toList]; lia
  have at_:∀j,(r.toList.zipIdx.foldl (fun a (x:Keyed×Nat)=>match x with|(p,j)=>a.setIfInBounds (sa+k+j) p) (arrOf st))[j]?=if sa+k<=j/\j<sb+n then r.toList[j-(sa+k)]? else (arrOf st)[j]?:=fun j=>by
   have:=Fd (l:=r.toList) (sa:=sa+k) (k:=j) 0 (arrOf st) 0x1;rw [this,zr];by_cases hj:sa+k<=j/\j<sb+n
   ·rw [if_pos 0x1,if_pos hj,Nat.sub_zero]
   ·rw [if_neg 0x1,if_neg hj]
  have zo:=Am (l:=r.toList) (sa:=sa+k) 0 (arrOf st);refine h _ K1 F1 ?_ (fun j hj=>?_) (fun u v x y q1 q2 q3 ex ey=>?_) P1
  ·show (r.toList.zipIdx.foldl _ (arrOf G')).Perm (arrOf st);rw [A1];refine Array.perm_iff_toList_perm.mpr ?_;have e:(r.toList.zipIdx.foldl (fun a (x:Keyed×Nat)=>match x with|(p,j)=>a.setIfInBounds (sa+k+j) p) (arrOf st)).toList=(arrOf st).toList.take (sa+k)++r.toList++(arrOf st).toList.drop (sb+n):=by
    apply List.ext_getElem?;intro j;rw [Array.getElem?_toList,at_ j,List.getElem?_append,List.getElem?_append];have zt:((arrOf st).toList.take (sa+k)).length=sa+k:=by rw [List.length_take,Array.length_toList]; lia
    rw [List.length_append,zt,zr];by_cases hj:sa+k<=j/\j<sb+n
    ·rw [if_pos hj,if_pos 0x1,if_neg 0x1]
    ·rw [if_neg hj];by_cases hj2:j<sa+k
     ·rw [if_pos 0x1,if_pos hj2,List.getElem?_take,if_pos hj2,Array.getElem?_toList]
     ·rw [if_neg 0x1,List.getElem?_drop,Array.getElem?_toList];congr 1; lia
   rw [e]
   conv=>rhs; rw [GC (arr:=arrOf st) (p:=sa+k) (q:=sb) (r:=sb+n) 0x1 0x1 0x1]
   exact (hr.1.append_left _).append_right _
  ·show (r.toList.zipIdx.foldl _ (arrOf G'))[j]?=_;rw [A1,at_ j,if_neg 0x1]
  ·
   have N1:(r.toList.zipIdx.foldl _ (arrOf G'))[u]?=some x:=ex;have Nw:(r.toList.zipIdx.foldl _ (arrOf G'))[v]?=some y:=ey;rw [A1,at_ u] at N1;rw [A1,at_ v] at Nw;have Ol:∀{j:Nat} {z:Keyed},r.toList[j]?=some z->∃t,sa+k<=t/\t<sb+n/\(arrOf st)[t]?=some z:=fun {j z} ez=>by
    have mz:z∈r.toList:=List.mem_of_getElem? ez;rcases Ld.mp (hr.1.mem_iff.mp mz) with q|q
    ·obtain ⟨t,t1,t2,t3,et⟩:=eA q; exact ⟨t,t1,0x1,et⟩
    ·obtain ⟨t,t1,t2,t3,et⟩:=eA q; exact ⟨t,0x1,t2,et⟩
   have lowA:∀{u t:Nat} {x z:Keyed},sa<=u->u<sa+k->u<=t->t<sb+nb->(arrOf st)[u]?=some x->(arrOf st)[t]?=some z->Le key x z:=fun {u t x z} q1 q2 q3 q4 ex ez=>by
    rcases Nat.lt_or_ge t sb with ht|ht
    ·exact S1 u t x z q1 q3 ht ex ez
    ·exact (k2 u x q1 q2 ex).trans (S2 sb t b0 z (K2 _) ht q4 eb0 ez)
   have Oq:∀{u t:Nat} {x z:Keyed},sa<=u->u<=t->sb+n<=t->t<sb+nb->(arrOf st)[u]?=some x->(arrOf st)[t]?=some z->Le key x z:=fun {u t x z} q1 q2 q3 q4 ex ez=>by
    rcases Nat.lt_or_ge u sb with hu|hu
    ·exact (S1 u (sb-1) x al q1 0x1 0x1 ex OV).trans (n3 t z q3 q4 ez)
    ·exact S2 u t x z hu q2 q4 ex ez
   by_cases cu:sa+k<=u/\u<sb+n
   ·rw [if_pos cu] at N1;by_cases cv:sa+k<=v/\v<sb+n
    ·rw [if_pos cv] at Nw;have hs:=hr.2;rcases Nat.lt_or_ge u v with huv|huv
     ·obtain ⟨hu',rfl⟩:=Lj.mp N1;obtain ⟨Oe,rfl⟩:=Lj.mp Nw;exact List.pairwise_iff_getElem.mp hs _ _ hu' Oe 0x1
     ·have:u=v:=by lia
      subst this;rw [N1] at Nw; cases Nw; exact Le.refl _
    ·rw [if_neg cv] at Nw;obtain ⟨t,t1,t2,et⟩:=Ol N1;exact Oq 0x1 0x1 0x1 q3 et Nw
   ·rw [if_neg cu] at N1;by_cases cv:sa+k<=v/\v<sb+n
    ·rw [if_pos cv] at Nw;obtain ⟨t,t1,t2,et⟩:=Ol Nw;exact lowA q1 0x1 0x1 0x1 N1 et
    ·rw [if_neg cv] at Nw;rcases Nat.lt_or_ge u (sa+k) with hu|hu
     ·exact lowA q1 hu q2 q3 N1 Nw
     ·exact Oq q1 q2 0x1 q3 N1 Nw
 have zx0:0<((arrOf st).extract (sa+k) sb).size:=by lia
 have zy0:0<((arrOf st).extract sb (sb+n)).size:=by lia
 by_cases c3:na-k<=n
 ·rw [if_pos c3];refine wpS_bind (xA hA hk px py zx0 zy0 sx sy fst0 lst0 fun r G' hS hr=>?_);refine wpS_bind (wpS_modify (wpS_bind (wpS_get (wpS_pure ?_))));exact fin r G' (.inr trivial) (hS.kind.trans hk) (hS.failed.trans hf) hS.arr hS.pend hr
 ·rw [if_neg c3];refine wpS_bind (xJ hA hk px py zx0 zy0 sx sy fst0 lst0 fun r G' hS hr=>?_);refine wpS_bind (wpS_modify (wpS_bind (wpS_get (wpS_pure ?_))));exact fin r G' (.inr trivial) (hS.kind.trans hk) (hS.failed.trans hf) hS.arr hS.pend hr
end
abbrev Pn:=Nat×Nat×Nat
def bP:List Pn->Nat->Nat->Prop
 |[],lo,hi=>lo=hi
 |(s,n,_)::r,lo,hi=>s=lo/\0<n/\bP r (lo+n) hi
theorem bP.le:∀{l:List Pn} {lo hi:Nat},bP l lo hi->lo<=hi
 |[],_,_,h=>Lx h
 |(_,n,_)::_,_,_,h=>Lp (Nat.le_add_right _ n) (bP.le h.2.2)
theorem bP.len:∀{l:List Pn} {lo hi:Nat},bP l lo hi->lo+l.length<=hi
 |[],_,_,h=>Lx h
 |(_,n,_)::r,lo,hi,h=>by
  have:=bP.len h.2.2;have:=h.2.1;simp only [List.length_cons]; lia
theorem bP.split:∀{l r:List Pn} {lo hi:Nat},bP (l++r) lo hi->∃m,bP l lo m/\bP r m hi
 |[],_,lo,_,h=>⟨lo,rfl,h⟩
 |(s,n,p)::l,r,lo,hi,h=>by
  obtain ⟨m,h1,h2⟩:=bP.split (l:=l) h.2.2;exact ⟨m,⟨h.1,h.2.1,h1⟩,h2⟩
theorem bP.app:∀{l r:List Pn} {lo m hi:Nat},bP l lo m->bP r m hi->bP (l++r) lo hi
 |[],_,_,_,_,h1,h2=>by cases h1; exact h2
 |(s,n,p)::l,r,lo,m,hi,h1,h2=>⟨h1.1,h1.2.1,bP.app h1.2.2 h2⟩
theorem bP.mem:∀{l:List Pn} {lo hi:Nat},bP l lo hi->∀p∈l,lo<=p.1/\0<p.2.1/\p.1+p.2.1<=hi
 |[],_,_,_,_,hp=>nomatch hp
 |(s,n,q)::r,lo,hi,h,p,hp=>by
  rcases Lc.mp hp with e|e
  ·subst e;have:=bP.le h.2.2;exact ⟨Lx h.1.symm,h.2.1,by show s+n<=hi; rw [h.1]; exact this⟩
  ·have:=bP.mem h.2.2 p e;exact ⟨0x1,this.2.1,this.2.2⟩
structure RnS (key:Keyed->List Int) (κ:SortKind) (a₀:Array Keyed) (lo:Nat) (st:SortSt):Prop where
 kind:kindOf st=κ
 failed:failedOf st=none
 perm:(arrOf st).Perm a₀
 chain:bP (pendingOf st).toList 0 lo
 segs:∀p∈(pendingOf st).toList,fq key (arrOf st) p.1 (p.1+p.2.1)
section
variable {M:Model} {A:Around} {E:Value->Shared->Prop} {s:Shared} {κ:SortKind} {key:Keyed->List Int} {P:Keyed->Prop} {a₀:Array Keyed}
theorem RnS.size {lo:Nat} {st:SortSt} (h:RnS key κ a₀ lo st):(arrOf st).size=a₀.size:=h.perm.size_eq
variable {st:SortSt}
theorem RnS.allP (h:RnS key κ a₀ lo st) (hP:∀x∈a₀.toList,P x):∀x∈(arrOf st).toList,P x:=fun x hx=>hP x ((Array.perm_iff_toList_perm.mp h.perm).mem_iff.mp hx)
variable {i:Nat}
theorem BU {l:List Pn} (h:i+1<l.length):∃pre a b post,l=pre++a::b::post/\pre.length=i:=by
 refine ⟨l.take i,l[i],l[i+1],l.drop (i+2),?_,by rw [List.length_take]; lia⟩;rw [<-List.drop_eq_getElem_cons,<-List.drop_eq_getElem_cons,List.take_append_drop]
theorem lH (hA:oj M A E s κ key P) (hP:∀x∈a₀.toList,P x) {Q:Bool->SortSt->Prop} (hR:RnS key κ a₀ lo st) (Ni:lo<=a₀.size) (hi:i+1<(pendingOf st).size)
  (h:∀D',RnS key κ a₀ lo D'->(pendingOf D').size+1=(pendingOf st).size->(∀j,lo<=j->(arrOf D')[j]?=(arrOf st)[j]?)->Q true D'):wpS M A E s (mergeAt' i) Q st:=by
 obtain ⟨pre,⟨sa,na,pa⟩,⟨sb,nb,pb⟩,post,el,hl⟩:=BU (l:=(pendingOf st).toList) (i:=i) (by simpa using hi);have hc:=hR.chain;rw [el] at hc;obtain ⟨m,c1,c2⟩:=bP.split hc;obtain ⟨rfl,na0,rfl,nb0,c3⟩:=c2;have hle:=bP.le c3;have e1:(pendingOf st)[i]?=some (sa,na,pa):=by rw [<-Array.getElem?_toList,el,<-hl]; simp
 have e2:(pendingOf st)[i+1]?=some (sa+na,nb,pb):=by rw [<-Array.getElem?_toList,el,<-hl]; simp
 have Z:=hR.size;have s1:=hR.segs (sa,na,pa) (by rw [el]; simp);have s2:=hR.segs (sa+na,nb,pb) (by rw [el]; simp);refine xI hA hR.kind (hR.allP hP) hR.failed e1 e2 rfl na0 nb0 0x1 s1 s2 fun D' k' f' p' same seg pe=>?_;have el':(pendingOf D').toList=pre++(sa,na+nb,pa)::post:=by
  rw [pe,Array.toList_eraseIdxIfInBounds,Array.toList_setIfInBounds,el,<-hl];simp [List.set_append,List.eraseIdx_append];intro hc; lia
 refine h D' ⟨k',f',p'.trans hR.perm,?_,fun p hp=>?_⟩ ?_ fun j hj=>same j (.inr 0x1)
 ·rw [el'];exact bP.app c1 ⟨rfl,0x1,by rw [<-Nat.add_assoc]; exact c3⟩
 ·rw [el'] at hp;rcases Ld.mp hp with q|q
  ·have b1:=bP.mem c1 p q;exact (hR.segs p (by rw [el]; exact KZ _ q)).congr fun j q1 q2=>same j (.inl 0x1)
  ·rcases Lc.mp q with q|q
   ·subst q;show fq key _ sa (sa+(na+nb));rw [<-Nat.add_assoc]; exact seg
   ·have b1:=bP.mem c3 p q;exact (hR.segs p (by rw [el]; exact KY _ (KS _ (KS _ q)))).congr fun j q1 q2=>same j (.inr 0x1)
 ·have z1:(pendingOf D').size=(pre++(sa,na+nb,pa)::post).length:=by rw [<-el',Array.length_toList]
  have z2:(pendingOf st).size=(pre++(sa,na,pa)::(sa+na,nb,pb)::post).length:=by rw [<-el,Array.length_toList]
  rw [z1,z2]; simp; lia
theorem rB {f:Pn->Pn} (hf:∀p,(f p).1=p.1/\(f p).2.1=p.2.1):∀{l:List Pn} {i lo hi:Nat},bP l lo hi->bP (l.modify i f) lo hi
 |[],i,_,_,h=>by cases i <;> exact h
 |(s,n,p)::r,0,lo,hi,h=>by
  have q:=hf (s,n,p);show bP (f (s,n,p)::r) lo hi
  match e:f (s,n,p),q with
  |(s',n',p'),q=>exact ⟨q.1.trans h.1,by rw [show n'=n from q.2]; exact h.2.1,by rw [show n'=n from q.2]; exact h.2.2⟩
 |(s,n,p)::r,i+1,lo,hi,h=>⟨h.1,h.2.1,rB hf h.2.2⟩
theorem yK {f:Pn->Pn} (hf:∀p,(f p).1=p.1/\(f p).2.1=p.2.1):∀{l:List Pn} {i:Nat} {p:Pn},p∈l.modify i f->∃q∈l,p.1=q.1/\p.2.1=q.2.1
 |[],i,p,h=>by cases i <;> cases h
 |a::r,0,p,h=>by
  rcases Lc.mp (show p∈f a::r from h) with e|e
  ·exact ⟨a,KU,by rw [e]; exact hf a⟩
  ·exact ⟨p,KS _ e,rfl,rfl⟩
 |a::r,i+1,p,h=>by
  rcases Lc.mp (show p∈a::r.modify i f from h) with e|e
  ·exact ⟨a,KU,by rw [e]; exact ⟨rfl,rfl⟩⟩
  ·obtain ⟨q,hq,e1⟩:=yK hf e;exact ⟨q,KS _ hq,e1⟩
theorem RnS.pw {f:Pn->Pn} (h:RnS key κ a₀ lo st) (hf:∀p,(f p).1=p.1/\(f p).2.1=p.2.1):RnS key κ a₀ lo (setPending st ((pendingOf st).modify i f)):=
 ⟨h.kind,h.failed,h.perm,by
  show bP ((pendingOf st).modify i f).toList 0 lo;rw [Array.toList_modify];exact rB hf h.chain,fun p hp=>by
  have M1:p∈((pendingOf st).modify i f).toList:=hp;rw [Array.toList_modify] at M1;obtain ⟨q,hq,e1,e2⟩:=yK hf M1;rw [e1,e2];exact h.segs q hq⟩
theorem vO (hA:oj M A E s κ key P) {Q:Unit->SortSt->Prop} (hk:kindOf st=κ) (hf:failedOf st=none) (hp:pendingOf st=#[]) (hP:∀x∈(arrOf st).toList,P x)
  (h:∀D',failedOf D'=none->(arrOf D').Perm (arrOf st)->(arrOf D').toList.Pairwise (Le key)->Q () D'):wpS M A E s sortRuns' Q st:=by
 obtain ⟨a₀,ea⟩:∃x,x=arrOf st:=⟨_,rfl⟩;have Oa:∀x∈a₀.toList,P x:=by rw [ea]; exact hP
 refine wpS_bind (wpS_get ?_);dsimp only;rw [show (arrOf st).size=a₀.size by rw [ea]];obtain ⟨mr,emr⟩:∃x,x=minRun' a₀.size a₀.size 0:=⟨_,rfl⟩;rw [show (sortPriv% PySem.Builtin.minRun) a₀.size a₀.size 0=mr from emr.symm];refine wpS_bind (wpS_mono (wpS_forRange
  (I:=fun x c D'=>∃lo,c=(none,lo)/\RnS key κ a₀ lo D'/\lo<=a₀.size/\min x a₀.size<=lo)
  (Q:=fun c D'=>c=(none,a₀.size)/\RnS key κ a₀ a₀.size D') ?step ?fin ⟨0,rfl,⟨hk,hf,by rw [ea],by rw [hp]; exact rfl,by rw [hp]; exact fun _ hx=>nomatch hx⟩,Lo _,0x1⟩) ?post)
 case fin=>
  rintro c D' ⟨lo,rfl,hR,h1,h2⟩;have:lo=a₀.size:=by lia
  subst this;exact ⟨rfl,hR⟩
 case step=>
  rintro x c G' _ hx ⟨lo,rfl,hR,hlz,h2⟩;dsimp only;by_cases Ni:lo>=a₀.size
  ·rw [if_pos Ni];have:lo=a₀.size:=by lia
   subst this;exact wpS_pure ⟨rfl,hR⟩
  rw [if_neg Ni];have Z1:=hR.size;refine wpS_bind (vZ hA hR.kind (hR.allP Oa) 0x1 0x1 fun n LH n1 n2 F2 S2=>?_);dsimp only;have R2:RnS key κ a₀ lo LH:=⟨F2.kind.trans hR.kind,F2.failed.trans hR.failed,F2.perm.trans hR.perm,by rw [F2.pend]; exact hR.chain,fun p hp=>by
   rw [F2.pend] at hp;have b1:=bP.mem hR.chain p hp;exact (hR.segs p hp).congr fun j q1 q2=>F2.same j (.inl 0x1)⟩
  by_cases hn:n<mr
  ·rw [if_pos hn];refine wpS_bind (wpS_lift (wpAny_rule ⟨rfl,?_⟩));have Z2:=R2.size;refine wpS_bind (qP hA R2.kind (R2.allP Oa) n1 0x1 0x1 S2 fun L' F3 S3=>?_);rw [if_neg 0x4];have R3:RnS key κ a₀ lo L':=⟨F3.kind.trans R2.kind,F3.failed.trans R2.failed,F3.perm.trans R2.perm,by rw [F3.pend]; exact R2.chain,fun p hp=>by
    rw [F3.pend] at hp;have b1:=bP.mem R2.chain p hp;exact (R2.segs p hp).congr fun j q1 q2=>F3.same j (.inl 0x1)⟩
   have nf1:1<=min (a₀.size-lo) mr:=by lia
   have nf2:min (a₀.size-lo) mr<=a₀.size-lo:=by lia
   clear S2 F2 F3 hn n1 n2;generalize min (a₀.size-lo) (mr)=m at *;have NL:∀LN,RnS key κ a₀ lo LN->fq key (arrOf LN) lo (lo+m)->RnS key κ a₀ (lo+m) (setPending LN ((pendingOf LN).push (lo,m,0))):=fun LN R4 S4=>
    ⟨R4.kind,R4.failed,R4.perm,by
     show bP ((pendingOf LN).push (lo,m,0)).toList 0 (lo+m);rw [Array.toList_push];exact bP.app R4.chain ⟨rfl,nf1,rfl⟩,fun p hp=>by
     have M1:p∈((pendingOf LN).push (lo,m,0)).toList:=hp;rw [Array.toList_push] at M1;rcases Ld.mp M1 with q|q
     ·exact R4.segs p q
     ·rw [Lg.mp q]; exact S4⟩
   refine wpS_bind (wpS_get ?_);cases eb:(pendingOf L').back? with
   |none=>
    dsimp only;exact wpS_bind (wpS_modify (wpS_pure ⟨_,rfl,NL L' R3 S3,0x1,0x1⟩))
   |some pb=>
    obtain ⟨s1,n1,p1⟩:=pb;dsimp only;refine wpS_bind (wpS_mono (wpS_forRange
     (I:=fun _ c D'=>c=(none,())/\RnS key κ a₀ lo D'/\fq key (arrOf D') lo (lo+m))
     (Q:=fun c D'=>c=(none,())/\RnS key κ a₀ lo D'/\fq key (arrOf D') lo (lo+m)) ?_ (fun _ _ q=>q) ⟨rfl,R3,S3⟩) ?_)
    ·rintro y c LN _ hy ⟨rfl,R4,S4⟩;refine wpS_bind (wpS_get ?_)
     try dsimp only
     by_cases h1:(pendingOf LN).size>1
     ·rw [if_pos h1];have LM:(pendingOf LN).size-2<(pendingOf LN).size:=by lia
      rw [getElem?_pos (pendingOf LN) _ LM];have OT:(pendingOf LN).size-2+1<(pendingOf LN).size:=by lia
      dsimp only;split
      ·exact wpS_pure ⟨rfl,R4,S4⟩
      ·refine wpS_bind (lH hA Oa R4 hlz OT fun Nr R5 _ s5=>?_);rw [if_neg 0x4];exact wpS_pure ⟨rfl,R5,S4.congr fun j q1 _=>s5 j q1⟩
     ·rw [if_neg h1];exact wpS_pure ⟨rfl,R4,S4⟩
    ·rintro c LN ⟨rfl,R4,S4⟩
     try dsimp only
     refine wpS_bind (wpS_modify (wpS_bind (wpS_modify (wpS_pure ⟨_,rfl,NL _ ?_ S4,0x1,0x1⟩))));exact R4.pw fun _=>⟨rfl,rfl⟩
  ·rw [if_neg hn];obtain ⟨L',est⟩:∃x,x=LH:=⟨_,rfl⟩;rw [<-est] at R2 S2 ⊢;have R3:=R2;have S3:=S2;have nf1:=n1;have nf2:=n2;clear S2 F2 hn n1 n2 R2;generalize n=m at *;have NL:∀LN,RnS key κ a₀ lo LN->fq key (arrOf LN) lo (lo+m)->RnS key κ a₀ (lo+m) (setPending LN ((pendingOf LN).push (lo,m,0))):=fun LN R4 S4=>
    ⟨R4.kind,R4.failed,R4.perm,by
     show bP ((pendingOf LN).push (lo,m,0)).toList 0 (lo+m);rw [Array.toList_push];exact bP.app R4.chain ⟨rfl,nf1,rfl⟩,fun p hp=>by
     have M1:p∈((pendingOf LN).push (lo,m,0)).toList:=hp;rw [Array.toList_push] at M1;rcases Ld.mp M1 with q|q
     ·exact R4.segs p q
     ·rw [Lg.mp q]; exact S4⟩
   refine wpS_bind (wpS_get ?_);cases eb:(pendingOf L').back? with
   |none=>
    dsimp only;exact wpS_bind (wpS_modify (wpS_pure ⟨_,rfl,NL L' R3 S3,0x1,0x1⟩))
   |some pb=>
    obtain ⟨s1,n1,p1⟩:=pb;dsimp only;refine wpS_bind (wpS_mono (wpS_forRange
     (I:=fun _ c D'=>c=(none,())/\RnS key κ a₀ lo D'/\fq key (arrOf D') lo (lo+m))
     (Q:=fun c D'=>c=(none,())/\RnS key κ a₀ lo D'/\fq key (arrOf D') lo (lo+m)) ?_ (fun _ _ q=>q) ⟨rfl,R3,S3⟩) ?_)
    ·rintro y c LN _ hy ⟨rfl,R4,S4⟩;refine wpS_bind (wpS_get ?_)
     try dsimp only
     by_cases h1:(pendingOf LN).size>1
     ·rw [if_pos h1];have LM:(pendingOf LN).size-2<(pendingOf LN).size:=by lia
      rw [getElem?_pos (pendingOf LN) _ LM];have OT:(pendingOf LN).size-2+1<(pendingOf LN).size:=by lia
      dsimp only;split
      ·exact wpS_pure ⟨rfl,R4,S4⟩
      ·refine wpS_bind (lH hA Oa R4 hlz OT fun Nr R5 _ s5=>?_);rw [if_neg 0x4];exact wpS_pure ⟨rfl,R5,S4.congr fun j q1 _=>s5 j q1⟩
     ·rw [if_neg h1];exact wpS_pure ⟨rfl,R4,S4⟩
    ·rintro c LN ⟨rfl,R4,S4⟩
     try dsimp only
     refine wpS_bind (wpS_modify (wpS_bind (wpS_modify (wpS_pure ⟨_,rfl,NL _ ?_ S4,0x1,0x1⟩))));exact R4.pw fun _=>⟨rfl,rfl⟩
 case post=>
  rintro c G' ⟨rfl,R1⟩;dsimp only;refine wpS_bind (wpS_mono (wpS_forRange
   (I:=fun x c D'=>c=(none,())/\RnS key κ a₀ a₀.size D'/\(pendingOf D').size<=max 1 (a₀.size-x))
   (Q:=fun c D'=>c=(none,())/\RnS key κ a₀ a₀.size D'/\(pendingOf D').size<=1) ?_ ?_ ⟨rfl,R1,?_⟩) ?_)
  ·rintro x c LH _ hx ⟨rfl,R2,Ny⟩;refine wpS_bind (wpS_get ?_)
   try dsimp only
   by_cases h1:(pendingOf LH).size<=1
   ·rw [if_pos h1]; exact wpS_pure ⟨rfl,R2,h1⟩
   rw [if_neg h1];have t:∀(c:Prop) [Decidable c],(if c then (pendingOf LH).size-2-1 else (pendingOf LH).size-2)+1<(pendingOf LH).size:=fun c _=>by
    split <;> lia
   refine wpS_bind (lH hA Oa R2 (K2 _) (t _) fun L' R3 z3 _=>?_)
   ·rw [if_neg 0x4];exact wpS_pure ⟨rfl,R3,0x1⟩
  ·rintro c LH ⟨rfl,R2,Ny⟩;exact ⟨rfl,R2,0x1⟩
  ·have:=bP.len R1.chain;rw [Array.length_toList] at this;lia
  ·rintro c LH ⟨rfl,R2,Ny⟩;dsimp only;refine wpS_pure (h LH R2.failed (by rw [<-ea]; exact R2.perm) (kh.mpr ?_));have Z:=R2.size;have hc:=R2.chain;have hs:=R2.segs
   match e:(pendingOf LH).toList,hc,hs with
   |[],hc,_=>
    have:0=a₀.size:=hc;intro i j x y _ _ hj;lia
   |[(s1,n1,p1)],hc,hs=>
    obtain ⟨rfl,_,hn⟩:=hc;have N3:0+n1=a₀.size:=hn;have:=hs _ KU;rw [Z,<-N3];exact this
   |_::_::_,_,_=>
    have:(pendingOf LH).toList.length<=1:=by rw [Array.length_toList]; exact Ny
    rw [e] at this;simp at this
end
noncomputable def m4 (l:List Nat):List Int:=l.map (fun n:Nat=>(n:Int))++[-1]
mutual
noncomputable def lW:PyData->List Int
 |.int i=>[i]
 |.str x=>m4 x.cps.toList
 |.tuple xs=>iH xs
 |_=>[]
noncomputable def iH:List PyData->List Int
 |[]=>[0]
 |x::r=>1::(lW x++iH r)
end
mutual
noncomputable def iD:PyData->Bool
 |.int _=>true
 |.str _=>true
 |.tuple xs=>Ah xs
 |_=>false
noncomputable def Ah:List PyData->Bool
 |[]=>true
 |x::r=>iD x&&Ah r
end
theorem bI (x y:Int) (a b:List Int):ll (x::a) (y::b)=if x=y then ll a b else decide (x<y):=HT.lexLt_cons ..
theorem yz:∀(a b:List Nat) (r1 r2:List Int),(a=b/\decide (a<b)=false)\/(a≠b/\ll (m4 a++r1) (m4 b++r2)=decide (a<b)/\ll (m4 b++r2) (m4 a++r1)=!decide (a<b))
 |[],[],_,_=>.inl ⟨rfl,0x4⟩
 |[],y::b,r1,r2=>.inr ⟨0x4,(by
  show ll (-1::r1) ((y:Int)::(m4 b++r2))=_/\ll ((y:Int)::(m4 b++r2)) (-1::r1)=_;rw [bI,bI,if_neg 0x1,if_neg 0x1];constructor <;> simp <;> lia)⟩
 |x::a,[],r1,r2=>.inr ⟨0x4,(by
  show ll ((x:Int)::(m4 a++r1)) (-1::r2)=_/\ll (-1::r2) ((x:Int)::(m4 a++r1))=_;rw [bI,bI,if_neg 0x1,if_neg 0x1];constructor <;> simp <;> lia)⟩
 |x::a,y::b,r1,r2=>by
  have e1:m4 (x::a)++r1=(x:Int)::(m4 a++r1):=rfl;have e2:m4 (y::b)++r2=(y:Int)::(m4 b++r2):=rfl;rw [e1,e2,bI,bI];by_cases h:x=y
  ·subst h;rw [if_pos rfl,if_pos rfl];have ed:decide (x::a<x::b)=decide (a<b):=by
    simp [List.cons_lt_cons_iff]
   rw [ed];rcases yz a b r1 r2 with ⟨q,q2⟩|q
   ·exact .inl ⟨by rw [q],q2⟩
   ·exact .inr ⟨fun e=>q.1 (by cases e; rfl),q.2⟩
  ·rw [if_neg 0x1,if_neg 0x1];refine .inr ⟨fun e=>h (by cases e; rfl),?_⟩;have ed:decide (x::a<y::b)=decide (x<y):=by
    simp [List.cons_lt_cons_iff,h]
   rw [ed];constructor
   ·simp
   ·by_cases q:x<y
    ·simp [q]; lia
    ·simp [q]; lia
mutual
theorem Bn:∀(x y:PyData),iD x=true->iD y=true->PyData.eqv x y=true->x=y
 |.int i,.int j,_,_,h=>by
  unfold PyData.eqv at h;rw [eq_of_beq h]
 |.str x,.str y,_,_,h=>by
  unfold PyData.eqv at h;rw [eq_of_beq h]
 |.tuple xs,.tuple ys,h1,h2,h=>by
  unfold PyData.eqv at h;unfold iD at h1 h2;rw [rU xs ys h1 h2 h]
 |.int _,.str _,_,_,h=>by unfold PyData.eqv at h; cases h
 |.int _,.tuple _,_,_,h=>by unfold PyData.eqv at h; cases h
 |.str _,.int _,_,_,h=>by unfold PyData.eqv at h; cases h
 |.str _,.tuple _,_,_,h=>by unfold PyData.eqv at h; cases h
 |.tuple _,.int _,_,_,h=>by unfold PyData.eqv at h; cases h
 |.tuple _,.str _,_,_,h=>by unfold PyData.eqv at h; cases h
 |.none,_,h,_,_=>by unfold iD at h; cases h
 |.bool _,_,h,_,_=>by unfold iD at h; cases h
 |.list _,_,h,_,_=>by unfold iD at h; cases h
 |.dict _,_,h,_,_=>by unfold iD at h; cases h
 |_,.none,_,h,_=>by unfold iD at h; cases h
 |_,.bool _,_,h,_=>by unfold iD at h; cases h
 |_,.list _,_,h,_=>by unfold iD at h; cases h
 |_,.dict _,_,h,_=>by unfold iD at h; cases h
theorem rU:∀(xs ys:List PyData),Ah xs=true->Ah ys=true->PyData.eqvAll xs ys=true->xs=ys
 |[],[],_,_,_=>rfl
 |[],_::_,_,_,h=>by unfold PyData.eqvAll at h; cases h
 |_::_,[],_,_,h=>by unfold PyData.eqvAll at h; cases h
 |x::xs,y::ys,h1,h2,h=>by
  unfold PyData.eqvAll at h;unfold Ah at h1 h2;rw [Bool.and_eq_true] at h h1 h2;rw [Bn x y h1.1 h2.1 h.1,rU xs ys h1.2 h2.2 h.2]
end
mutual
theorem vI:∀(x:PyData),iD x=true->PyData.eqv x x=true
 |.int i,_=>by unfold PyData.eqv; exact beq_self_eq_true i
 |.str x,_=>by unfold PyData.eqv; exact beq_self_eq_true x
 |.tuple xs,h=>by unfold PyData.eqv; unfold iD at h; exact nK xs h
 |.none,h=>by unfold iD at h; cases h
 |.bool _,h=>by unfold iD at h; cases h
 |.list _,h=>by unfold iD at h; cases h
 |.dict _,h=>by unfold iD at h; cases h
theorem nK:∀(xs:List PyData),Ah xs=true->PyData.eqvAll xs xs=true
 |[],_=>by unfold PyData.eqvAll; rfl
 |x::r,h=>by
  unfold PyData.eqvAll;unfold Ah at h;rw [Bool.and_eq_true] at h;rw [vI x h.1,nK r h.2]; rfl
end
mutual
theorem sI:∀(x y:PyData) (b:Bool),iD x=true->iD y=true->cD true x y=some b->∀r1 r2:List Int,
  (x=y/\b=false)\/(x≠y/\ll (lW x++r1) (lW y++r2)=b/\ll (lW y++r2) (lW x++r1)=!b)
 |.int i,.int j,b,_,_,h,r1,r2=>by
  unfold cD cI at h;cases h;unfold lW;show _\/(_/\ll (i::r1) (j::r2)=_/\ll (j::r2) (i::r1)=_);rw [bI,bI];by_cases e:i=j
  ·subst e; exact .inl ⟨rfl,0x4⟩
  ·rw [if_neg e,if_neg (Ne.symm e)];refine .inr ⟨fun q=>e (by cases q; rfl),0x4,?_⟩;by_cases q:i<j
   ·simp [q]; lia
   ·simp [q]; lia
 |.str x,.str y,b,_,_,h,r1,r2=>by
  unfold cD cS at h;cases h;unfold lW;simp only [if_true];rcases yz x.cps.toList y.cps.toList r1 r2 with ⟨q1,q2⟩|q
  ·have:x=y:=by
    cases x; cases y
    congr 1;exact Array.toList_inj.mp q1
   subst this;exact .inl ⟨rfl,q2⟩
  ·exact .inr ⟨fun e=>q.1 (by cases e; rfl),q.2⟩
 |.tuple xs,.tuple ys,b,h1,h2,h,r1,r2=>by
  unfold cD at h;unfold iD at h1 h2;unfold lW;rcases vm xs ys b h1 h2 h r1 r2 with ⟨q1,q2⟩|⟨q1,q2⟩
  ·exact .inl ⟨by rw [q1],q2⟩
  ·exact .inr ⟨fun e=>q1 (by cases e; rfl),q2⟩
 |.int _,.str _,_,_,_,h,_,_=>by unfold cD at h; cases h
 |.int _,.tuple _,_,_,_,h,_,_=>by unfold cD at h; cases h
 |.str _,.int _,_,_,_,h,_,_=>by unfold cD at h; cases h
 |.str _,.tuple _,_,_,_,h,_,_=>by unfold cD at h; cases h
 |.tuple _,.int _,_,_,_,h,_,_=>by unfold cD at h; cases h
 |.tuple _,.str _,_,_,_,h,_,_=>by unfold cD at h; cases h
 |.none,_,_,h,_,_,_,_=>by unfold iD at h; cases h
 |.bool _,_,_,h,_,_,_,_=>by unfold iD at h; cases h
 |.list _,_,_,h,_,_,_,_=>by unfold iD at h; cases h
 |.dict _,_,_,h,_,_,_,_=>by unfold iD at h; cases h
 |_,.none,_,_,h,_,_,_=>by unfold iD at h; cases h
 |_,.bool _,_,_,h,_,_,_=>by unfold iD at h; cases h
 |_,.list _,_,_,h,_,_,_=>by unfold iD at h; cases h
 |_,.dict _,_,_,h,_,_,_=>by unfold iD at h; cases h
theorem vm:∀(xs ys:List PyData) (b:Bool),Ah xs=true->Ah ys=true->cL true xs ys=some b->∀r1 r2:List Int,
  (xs=ys/\b=false)\/(xs≠ys/\ll (iH xs++r1) (iH ys++r2)=b/\ll (iH ys++r2) (iH xs++r1)=!b)
 |[],[],b,_,_,h,_,_=>by unfold cL at h; cases h; exact .inl ⟨rfl,rfl⟩
 |[],y::ys,b,_,_,h,r1,r2=>by
  unfold cL at h; cases h
  refine .inr ⟨0x4,?_⟩;unfold iH;show ll (0::r1) (1::(lW y++iH ys++r2))=_/\ll (1::(lW y++iH ys++r2)) (0::r1)=_;rw [bI,bI];exact ⟨rfl,rfl⟩
 |x::xs,[],b,_,_,h,r1,r2=>by
  unfold cL at h; cases h
  refine .inr ⟨0x4,?_⟩;unfold iH;show ll (1::(lW x++iH xs++r1)) (0::r2)=_/\ll (0::r2) (1::(lW x++iH xs++r1))=_;rw [bI,bI];exact ⟨rfl,rfl⟩
 |x::xs,y::ys,b,h1,h2,h,r1,r2=>by
  unfold cL at h;unfold Ah at h1 h2;rw [Bool.and_eq_true] at h1 h2;have e1:iH (x::xs)++r1=1::(lW x++(iH xs++r1)):=by rw [iH]; simp
  have e2:iH (y::ys)++r2=1::(lW y++(iH ys++r2)):=by rw [iH]; simp
  rw [e1,e2,bI,bI,if_pos rfl,if_pos rfl];by_cases e:PyData.eqv x y=true
  ·rw [if_pos e] at h;have exy:=Bn x y h1.1 h2.1 e;subst exy;have z:∀(l r1 r2:List Int),ll (l++r1) (l++r2)=ll r1 r2:=fun l r1 r2=>by
    induction l with
    |nil=>rfl
    |cons u l ih=>show ll (u::(l++r1)) (u::(l++r2))=_; rw [bI,if_pos rfl]; exact ih
   rw [z,z];rcases vm xs ys b h1.2 h2.2 h r1 r2 with ⟨q1,q2⟩|⟨q1,q2⟩
   ·exact .inl ⟨by rw [q1],q2⟩
   ·exact .inr ⟨fun e=>q1 (by cases e; rfl),q2⟩
  ·rw [if_neg e] at h;rcases sI x y b h1.1 h2.1 h (iH xs++r1) (iH ys++r2) with ⟨q1,q2⟩|⟨q1,q2⟩
   ·subst q1;exact absurd (vI x h1.1) e
   ·exact .inr ⟨fun e=>q1 (by cases e; rfl),q2⟩
end
theorem wJ {x y:PyData} {b:Bool} (h1:iD x=true) (h2:iD y=true) (h:cD true x y=some b):ll (lW x) (lW y)=b:=by
 rcases sI x y b h1 h2 h [] [] with ⟨q1,q2⟩|⟨_,q,_⟩
 ·rw [q1,q2]; exact eH _
 ·simpa using q
theorem DO {x y:PyData} (h1:iD x=true) (h2:iD y=true) (h:(cD true x y).isSome=true) (e:lW x=lW y):x=y:=by
 obtain ⟨b,hb⟩:=Lk.mp h;rcases sI x y b h1 h2 hb [] [] with ⟨q1,_⟩|⟨_,q1,q2⟩
 ·exact q1
 ·rw [e,eH] at q1;rw [e,eH,<-q1] at q2;cases q2
section
variable {prog:Program} {w:World} {A:Around} {E:Value->Shared->Prop} {s:Shared}
theorem Bp (vs:List Value):vs.zip vs=vs.map fun v=>(v,v):=by
 induction vs with
 |nil=>rfl
 |cons v r ih=>rw [List.zip_cons_cons,ih]; rfl
theorem qU {a:Addr} {vs:List Value} {n:Nat} {P:PySem.Fin->Shared->Prop} {κ:SortKind} (ho:s.heap.get? a=some (seqObj "list" vs.toArray n)) (hz:vs.length<=10000)
  (hk:∀(s':Shared) (Q:SortKind->Shared->Prop) (E:Value->Shared->Prop),(∀b o,b≠a->s.heap.get? b=some o->s'.heap.get? b=some o)->2<=vs.length->Q κ s'->wpAny (model prog w) A (keyKind' vs.toArray) Q E s')
  (hc:∀(s':Shared) (u v:Value) (Q:Bool->Shared->Prop) (E:Value->Shared->Prop),(∀b o,b≠a->s.heap.get? b=some o->s'.heap.get? b=some o)->u∈vs->v∈vs->Q (ll (key (u,u)) (key (v,v))) s' ->
   wpAny (model prog w) A (keyLt' κ u v) Q E s')
  (h:∀out:List Value,out.Perm vs->out.Pairwise (fun u v=>ll (key (v,v)) (key (u,u))=false)->P (.done (.ret .none)) { s with heap:=sortedHeap s.heap a vs out.toArray }):wpAny (model prog w) A (Builtin.«list.sort» ⟨[.ref a],[]⟩) P E s:=by
 rw [list_sort_plain];have ha:a<s.heap.objs.size:=K5 ho;refine K3 (listItems_at ho rfl ?_);refine K3 (listUpdate_at ho rfl ?_ (by rw [List.size_toArray,sizeLine_eq]; lia) (Lo _));obtain ⟨c1,ho1⟩:∃c1,(s.heap.update a (Obj.mapSeq fun _=>#[])).get? a=some (seqObj "list" #[] c1):=⟨_,get?_update_seq ho (fun _=>#[])⟩;refine K3 (seqEpoch_at ho1 rfl ?_);refine K3 (wpAny_newTuple ?_ (by show vs.length<=_; rw [sizeLine_eq]; lia));refine K3 (wpAny_newList ?_ (Lo _));refine wpAny_holding ?_;have keep:∀b o,b≠a->s.heap.get? b=some o->(((s.heap.update a (Obj.mapSeq fun _=>#[])).push (seqObj "tuple" vs.toArray 0)).push (seqObj "list" #[] 0)).get? b=some o:=fun b o hb e=>
  KW _ (KW _ (by rw [Heap.get?_update_ne _ _ _ _ hb]; exact e))
 have ho3:(((s.heap.update a (Obj.mapSeq fun _=>#[])).push (seqObj "tuple" vs.toArray 0)).push (seqObj "list" #[] 0)).get? a=some (seqObj "list" #[] c1):=KW _ (KW _ ho1);show wpAny (model prog w) A _ P E { s with heap:=((s.heap.update a (Obj.mapSeq fun _=>#[])).push (seqObj "tuple" vs.toArray 0)).push (seqObj "list" #[] 0) };dsimp only;have Ny:vs.toArray.size=vs.length:=List.size_toArray ..;have ezl:(vs.toArray.zip vs.toArray).toList=vs.map fun v=>(v,v):=by rw [<-Bp]; simp
 have fin:∀D':SortSt,(arrOf D').Perm (vs.toArray.zip vs.toArray)->(arrOf D').toList.Pairwise (Le key)->failedOf D'=none ->
   ∃out:List Value,(arrOf D').map (·.2)=out.toArray/\out.length=vs.length/\P (.done (.ret .none)) { s with heap:=sortedHeap s.heap a vs out.toArray }:=fun D' hp hs hf=>by
  have M1:(arrOf D').toList.Perm (vs.map fun v=>(v,v)):=by rw [<-ezl]; exact Array.perm_iff_toList_perm.mp hp
  have hpo:((arrOf D').toList.map (·.2)).Perm vs:=by
   have:=M1.map (·.2)
   rwa [List.map_map,show (vs.map ((fun p:Keyed=>p.2)∘fun v=>(v,v)))=vs from by rw [show ((fun p:Keyed=>p.2)∘fun v:Value=>(v,v))=id from rfl,List.map_id]] at this
  refine ⟨(arrOf D').toList.map (·.2),by apply Array.toList_inj.mp; simp,hpo.length_eq,h _ hpo ?_⟩;refine List.pairwise_map.mpr (hs.imp_of_mem fun {x y} hx hy hxy=>?_);obtain ⟨u,_,eu⟩:=Lf.mp (M1.mem_iff.mp hx);obtain ⟨v,_,ev⟩:=Lf.mp (M1.mem_iff.mp hy);subst eu; subst ev
  exact hxy
 by_cases h2:vs.length<2
 ·have NN:vs.toArray.size<2:=by lia
  rw [if_pos NN,if_pos NN];refine K3 (K4 ?_);rw [StateT.run_pure];refine K3 (K4 ?_);dsimp only;obtain ⟨out,eo,zo,hP⟩:=fin (SortSt.mk' general' (vs.toArray.zip vs.toArray) #[] 7 none) (Array.Perm.refl _) (by
   show (vs.toArray.zip vs.toArray).toList.Pairwise (Le key);rw [ezl]
   match vs,h2 with
   |[],_=>exact List.Pairwise.nil
   |[v],_=>exact List.pairwise_singleton _ _
   |_::_::_,h=>simp at h; lia) rfl
  refine K3 (seqEpoch_at ho3 rfl ?_);rw [eo];refine K3 (listUpdate_at ho3 rfl ?_ (Lo _) (by rw [List.size_toArray,zo,sizeLine_eq]; lia));simp only [bne_self_eq_false,Bool.false_eq_true,if_false];exact K4 hP
 ·have NN:¬vs.toArray.size<2:=by lia
  rw [if_neg NN,if_neg NN];refine K3 (hk _ _ _ keep 0x1 ?_);have asks:oj (model prog w) A E { s with heap:=((s.heap.update a (Obj.mapSeq fun _=>#[])).push (seqObj "tuple" vs.toArray 0)).push (seqObj "list" #[] 0) } κ key (fun x=>∃v∈vs,x=(v,v)):=fun x y st Q hkd ⟨u,hu,ex⟩ ⟨v,hv,ey⟩ hq=>by
   subst ex; subst ey
   rw [lt'_eq];refine wpS_bind (wpS_get ?_);rw [hkd];refine wpS_bind (wpS_lift (wpAny_attempt (hc _ u v _ _ keep hu hv ⟨rfl,?_⟩)));exact wpS_pure hq
  refine K3 (wpAny_mono (vO asks (st:=SortSt.mk' κ (vs.toArray.zip vs.toArray) #[] 7 none) (Q:=fun _ D'=>failedOf D'=none/\∃out:List Value,(arrOf D').map (·.2)=out.toArray/\out.length=vs.length/\P (.done (.ret .none)) { s with heap:=sortedHeap s.heap a vs out.toArray })
   rfl rfl rfl (fun x hx=>?_) fun D' a1 a2 a3=>⟨a1,fin D' a2 a3 a1⟩) ?_ fun _ _ x=>x)
  ·have hx':x∈(vs.toArray.zip vs.toArray).toList:=hx;rw [ezl] at hx';obtain ⟨v,hv,e⟩:=Lf.mp hx';exact ⟨v,hv,e.symm⟩
  ·rintro ⟨⟨⟩,D'⟩ s' ⟨rfl,hf,out,eo,zo,hP⟩;dsimp only at hf eo ⊢;refine K3 (seqEpoch_at ho3 rfl ?_);rw [eo];refine K3 (listUpdate_at ho3 rfl ?_ (Lo _) (by rw [List.size_toArray,zo,sizeLine_eq]; lia));rw [hf];simp only [bne_self_eq_false,Bool.false_eq_true,if_false];exact K4 hP
theorem xO {l:Addr} {vs:List Value} {Q:Value->Shared->Prop} {κ:SortKind} (hl:s.heap.IsList l vs.toArray) (hz:vs.length<=10000)
  (hk:∀(A':Around) (s':Shared) (Q:SortKind->Shared->Prop) (E:Value->Shared->Prop),A'.units<=A.units+2->(∀b o,s.heap.get? b=some o->s'.heap.get? b=some o)->2<=vs.length->Q κ s'->wpAny (model prog w) A' (keyKind' vs.toArray) Q E s')
  (hc:∀(A':Around) (s':Shared) (u v:Value) (Q:Bool->Shared->Prop) (E:Value->Shared->Prop),A'.units<=A.units+2->(∀b o,s.heap.get? b=some o->s'.heap.get? b=some o)->u∈vs->v∈vs->Q (ll (key (u,u)) (key (v,v))) s' ->
   wpAny (model prog w) A' (keyLt' κ u v) Q E s')
  (h:∀out:List Value,out.Perm vs->out.Pairwise (fun u v=>ll (key (v,v)) (key (u,u))=false)->Q (.ref (s.heap.objs.size+1)) { s with heap:=sortedAll s.heap vs out.toArray }):wpAny (model prog w) A (call (.builtin "sorted") [.ref l]) Q E s:=by
 refine Calls.call_function_entry kind_sorted plain_sorted entry_sorted (args_sorted1 _) ?_;unfold Builtin.«sorted»;refine K3 (m:=checkCount "sorted" 1 1 _) (K4 ?_);refine K3 (collect_list hl ?_ (by rw [sizeLine_eq]; lia));refine K3 (wpAny_newList ?_ (by rw [sizeLine_eq]; lia));have z1:((s.heap.push (seqObj "list" #[] 0)).update s.heap.objs.size (Obj.mapSeq (·++vs.toArray))).objs.size=s.heap.objs.size+1:=by rw [Heap.size_update,size_push']
 have hoL:(((s.heap.push (seqObj "list" #[] 0)).update s.heap.objs.size (Obj.mapSeq (·++vs.toArray))).push (seqObj "list" vs.toArray 0)).get? (s.heap.objs.size+1)=some (seqObj "list" vs.toArray 0):=by
  rw [<-z1]; exact Lv _ rfl
 have keep:∀b o,s.heap.get? b=some o->(((s.heap.push (seqObj "list" #[] 0)).update s.heap.objs.size (Obj.mapSeq (·++vs.toArray))).push (seqObj "list" vs.toArray 0)).get? b=some o:=fun b o e=>
  KW _ (by rw [Heap.get?_update_ne _ _ _ _ (Lu (K5 e))]; exact KW _ e)
 show wpAny _ _ _ _ _ { s with heap:=((s.heap.push (seqObj "list" #[] 0)).update s.heap.objs.size (Obj.mapSeq (·++vs.toArray))).push (seqObj "list" vs.toArray 0) };rw [z1];have ne1:∀b o,s.heap.get? b=some o->b≠s.heap.objs.size+1:=fun b o e=>Lu (Nat.lt_succ_of_lt (K5 e));refine K3 (wpAny_holding (wpAny_call_entry slot_list_sort ⟨_,hoL,rfl⟩ entry_list_sort (qU (κ:=κ) (key:=key) hoL hz
  (fun s' Q' E' kp h2 q=>hk _ s' Q' E' ?_ (fun b o e=>kp b o (ne1 b o e) (keep b o e)) h2 q) (fun s' u v Q' E' kp hi hj q=>hc _ s' u v Q' E' ?_ (fun b o e=>kp b o (ne1 b o e) (keep b o e)) hi hj q) fun out o1 o2=>?_) (args_list_sort _)))
 ·exact K2 _
 ·exact K2 _
 ·exact ⟨_,rfl,K4 ⟨_,rfl,h out o1 o2⟩⟩
end
noncomputable def wK (d:D):List D->List D
 |[]=>[d]
 |e::r=>if ll (lW d) (lW e)=true then d::e::r else e::wK d r
noncomputable def uj:List D->List D
 |[]=>[]
 |d::r=>wK d (uj r)
theorem nv (d:D):∀xs:List D,(wK d xs).Perm (d::xs)
 |[]=>.refl _
 |e::r=>by
  unfold wK;split
  ·exact .refl _
  ·exact ((nv d r).cons e).trans (.swap d e r)
theorem dY:∀xs:List D,(uj xs).Perm xs
 |[]=>.refl _
 |d::r=>(nv d (uj r)).trans ((dY r).cons d)
def vf (xs:List D):Prop:=xs.Pairwise fun a b=>ll (lW b) (lW a)=false
theorem v5 (d:D):∀{xs:List D},vf xs->vf (wK d xs)
 |[],_=>by unfold wK vf; simp
 |e::r,h=>by
  have h':=Ll.mp h;unfold wK;split
  ·rename_i c;refine Ll.mpr ⟨fun x hx=>?_,h⟩;rcases Lc.mp hx with q|q
   ·subst q; exact fQ c
   ·exact gQ (fQ c) (h'.1 x q)
  ·rename_i c;refine Ll.mpr ⟨fun x hx=>?_,v5 d h'.2⟩;rcases Lc.mp ((nv d r).mem_iff.mp hx) with q|q
   ·subst q; simpa using c
   ·exact h'.1 x q
theorem mh:∀xs:List D,vf (uj xs)
 |[]=>List.Pairwise.nil
 |d::r=>v5 d (mh r)
structure Cmp2 (ys:List D):Prop where
 ok:∀y∈ys,iD y=true
 cmp:∀x∈ys,∀y∈ys,(cD true x y).isSome=true
 head:(∀y∈ys,∃i r,y=.tuple (.int i::r))\/(∀y∈ys,∃t r,y=.tuple (.str t::r))
 deep:∀y∈ys,y.depth<=50
 many:ys.length<=10000
theorem qE:∀{xs ys:List D},xs.Perm ys->vf xs->vf ys->(∀x∈xs,iD x=true)->(∀x∈xs,∀y∈xs,(cD true x y).isSome=true)->xs=ys
 |[],ys,hp,_,_,_,_=>by rw [List.nil_perm.mp hp]
 |x::xs,[],hp,_,_,_,_=>by have:=hp.length_eq; simp at this
 |x::xs,y::ys,hp,h1,h2,hk,hc=>by
  have p1:=Ll.mp h1;have p2:=Ll.mp h2;have exy:x=y:=by
   by_cases e:x=y
   ·exact e
   ·have hx:x∈ys:=by
     rcases Lc.mp (hp.mem_iff.mp KU) with q|q
     ·exact absurd q e
     ·exact q
    have hy:y∈xs:=by
     rcases Lc.mp (hp.mem_iff.mpr KU) with q|q
     ·exact absurd q.symm e
     ·exact q
    have a1:=p1.1 y hy;have a2:=p2.1 x hx;exact DO (hk x KU) (hk y (KS _ hy)) (hc x KU y (KS _ hy)) (jQ a2 a1)
  subst exy;rw [qE (List.Perm.cons_inv hp) p1.2 p2.2 (fun z hz=>hk z (KS _ hz)) fun a ha b hb=>hc a (KS _ ha) b (KS _ hb)]
open Classical in
noncomputable def pX (xs:List DV):M DV:=match xs with
 |[x]=>bd (op (k7 x)) fun ys=>if Cmp2 ys then rt (.new (uj ys)) else none
 |_=>none
open Classical in
noncomputable def GF (h:Heap) (p:Keyed):List Int:=if e:∃d:PyData,∃as,Reads h p.1 d as/\d.canLay0=true then lW e.choose else []
theorem oR {h:Heap} {v u:Value} {d:PyData} {as:List Addr} (r:Reads h v d as) (hl:d.canLay0=true):GF h (v,u)=lW d:=by
 unfold GF;have e:∃d:PyData,∃as,Reads h (v,u).1 d as/\d.canLay0=true:=⟨d,as,r,hl⟩;rw [dif_pos e];obtain ⟨Nq,r',hl'⟩:=e.choose_spec;rw [PySem.SeqAt.Reads.unique _ _ _ _ _ hl' r' r]
theorem l0 {h:Heap}:∀{vs:List Value} {ds:List PyData} {as:List Addr},ReadsAll h vs ds as->PyData.canLayAll0 ds=true->∀v∈vs,∃d∈ds,∃bs,Reads h v d bs/\d.canLay0=true
 |_,_,_,.nil,_,_,hv=>nomatch hv
 |_,_,_,.cons r rr,hl,v,hv=>by
  unfold PyData.canLayAll0 at hl;rw [Bool.and_eq_true] at hl;rcases Lc.mp hv with e|e
  ·subst e; exact ⟨_,KU,_,r,hl.1⟩
  ·obtain ⟨d,hd,bs,h1,h2⟩:=l0 rr hl.2 v e;exact ⟨d,KS _ hd,bs,h1,h2⟩
theorem iz {h:Heap}:∀{vs:List Value} {ds:List PyData} {as:List Addr},ReadsAll h vs ds as->PyData.canLayAll0 ds=true->∀i,i<ds.length->∃bs,Reads h (vs.getD i Value.none) (ds.getD i .none) bs/\(ds.getD i .none).canLay0=true
 |_,_,_,.nil,_,i,hi=>absurd hi (Nat.not_lt_zero _)
 |_,_,_,.cons r rr,hl,0,_=>by
  unfold PyData.canLayAll0 at hl;rw [Bool.and_eq_true] at hl;exact ⟨_,r,hl.1⟩
 |_,_,_,.cons r rr,hl,i+1,hi=>by
  unfold PyData.canLayAll0 at hl;rw [Bool.and_eq_true] at hl;exact iz rr hl.2 i (Nat.lt_of_succ_lt_succ hi)
theorem vh {h:Heap}:∀(vs:List Value),(∀v∈vs,∃b o B' n x t,v=.ref b/\h.get? b=some o/\o.cls=.type "tuple" /\ o.data=.seq B' n/\B'[0]?=some (.str x t))->∃fs,PySem.W.KatTups h vs fs/\fs.length=vs.length/\∀f∈fs,∃x t,f=Value.str x t
 |[],_=>⟨[],PySem.W.KatTups.nil,rfl,fun _ hf=>nomatch hf⟩
 |v::r,hv=>by
  obtain ⟨b,o,B',n,x,t,rfl,eo,ec,ed,e0⟩:=hv v KU;obtain ⟨fs,h1,h2,h3⟩:=vh r fun u hu=>hv u (KS _ hu);refine ⟨.str x t::fs,PySem.W.KatTups.cons eo ec ed e0 h1,by simp [h2],fun f hf=>?_⟩;rcases Lc.mp hf with e|e
  ·exact ⟨x,t,e⟩
  ·exact h3 f e
theorem va {prog:Program} {w:World} {A:Around} {s:Shared} {Q:Bool->Shared->Prop} {X Y:Nat}:∀{vs ws:List Value} {xs ys:List PyData} {as bs:List Addr} {b:Bool} (i:Nat),ReadsAll s.heap vs xs as->ReadsAll s.heap ws ys bs ->
  PyData.canLayAll0 xs=true->PyData.canLayAll0 ys=true->A.units+PyData.depthAll xs<cLine->vs.length+Y=ws.length+X ->
  (i=0->(∃u r v r',xs=.int u::r/\ys=.int v::r')\/(∃u r v r',xs=.str u::r/\ys=.str v::r'))->cL true xs ys=some b->Q b s ->
  PySem.W.KatLex prog w A true (decide (X<Y)) Q (vs.zip ws) i s
 |_,_,_,_,_,_,b,i,.nil,.nil,_,_,_,hl,_,hc,h=>by
  unfold cL at hc; cases hc
  have:decide (X<Y)=false:=Lr (by simp at hl; lia);rw [this]; exact h
 |_,_,_,_,_,_,b,i,.nil,.cons _ _,_,_,_,hl,_,hc,h=>by
  unfold cL at hc; cases hc
  have:decide (X<Y)=true:=Ls (by simp at hl; lia);rw [this]; exact h
 |_,_,_,_,_,_,b,i,.cons _ _,.nil,_,_,_,hl,_,hc,h=>by
  unfold cL at hc; cases hc
  have:decide (X<Y)=false:=Lr (by simp at hl; lia);rw [this]; exact h
 |_,_,x::xs,y::ys,_,_,b,i,.cons r1 rr1,.cons r2 rr2,l1,l2,hu,hl,hh,hc,h=>by
  unfold PyData.canLayAll0 at l1 l2;rw [Bool.and_eq_true] at l1 l2;unfold cL at hc;have Oy:PyData.depthAll (x::xs)=max x.depth (PyData.depthAll xs):=by rw [PyData.depthAll]
  rw [Oy] at hu;refine PySem.W.kat_cons (SeqAt.eqAt_reads x y A s _ _ _ _ r1 r2 l1.1 l2.1 0x1 prog w _ _ ?_);cases e:PyData.eqv x y with
  |true=>
   rw [e,if_pos rfl] at hc;exact PySem.W.kat_yes (va (i+1) rr1 rr2 l1.2 l2.2 0x1 (by simp at hl; lia) (fun q=>absurd q (Nat.succ_ne_zero _)) hc h)
  |false=>
   rw [e,if_neg Bool.false_ne_true] at hc;refine PySem.W.kat_no ?_;by_cases hi:i=0
   ·subst hi;rcases hh rfl with ⟨u,r,v,r',e1,e2⟩|⟨u,r,v,r',e1,e2⟩
    ·cases e1; cases e2
     cases r1; cases r2
     unfold cD cI at hc; cases hc
     exact oneLt_int h
    ·cases e1; cases e2
     cases r1; cases r2
     unfold cD cS at hc; cases hc
     exact oneLt_str h
   ·have:(true&&i==0)=false:=by simp [hi]
    rw [this];refine PySem.W.kat_one _ _ ?_;exact mT _ true x y A s _ _ _ _ b (Nat.lt_succ_self _) r1 r2 l1.1 l2.1 0x1 hc prog w _ _ h
theorem zK {α:Type} {d:α}:∀{xs ys:List α},xs.Perm ys->∃is:List Nat,is.Perm (List.range ys.length)/\xs=is.map fun i=>ys.getD i d:=by
 intro xs ys h
 induction h with
 |nil=>exact ⟨[],0x4,rfl⟩
 |@cons x l1 l2 h ih=>
  obtain ⟨is,h1,h2⟩:=ih;refine ⟨0::is.map (·+1),?_,?_⟩
  ·rw [List.length_cons,List.range_succ_eq_map];exact (h1.map _).cons 0
  ·rw [List.map_cons,List.map_map,h2];rfl
 |swap x y l=>
  refine ⟨1::0::(List.range l.length).map (·+2),?_,?_⟩
  ·rw [List.length_cons,List.length_cons,List.range_succ_eq_map,List.range_succ_eq_map,List.map_cons,List.map_map];exact List.Perm.swap _ _ _
  ·rw [List.map_cons,List.map_cons,List.map_map];show _=y::x::_;congr 1;congr 1;exact (lN d l).symm
 |@trans l1 l2 l3 ha hb iha ihb=>
  obtain ⟨is,h1,h2⟩:=iha;obtain ⟨js,h3,h4⟩:=ihb;have zl:js.length=l2.length:=by rw [h4]; simp
  refine ⟨is.map fun i=>js.getD i 0,?_,?_⟩
  ·have:=h1.map fun i=>js.getD i 0;rw [<-zl,lN] at this;exact this.trans h3
  ·rw [List.map_map,h2];refine List.map_congr_left fun i hi=>?_;have LM:i<l2.length:=Lh.mp (h1.mem_iff.mp hi);have hlt':i<js.length:=by lia
   show l2.getD i d=l3.getD (js.getD i 0) d;rw [h4];simp [hlt']
section
variable {X:Cx} {E:XK}
theorem pJ (hu:X.A.units+64<cLine):d4 X E (.builtin "sorted") pX:=fun pins s σ O P H₀ H xs vs us r Q I hd hs rx rv e q=>by
 unfold pX at e;split at e
 ·obtain ⟨ys,e1,e2⟩:=bQ e;split at e2
  ·rename_i hz;cases e2;cases rx with
   |cons r1 rr=>
    cases rr;obtain ⟨a,ws,rfl,ha,l⟩:=r1.list e1;cases rv with
    |cons q1 q2=>
     cases q2;cases q1;obtain ⟨B',ri,pl,hzz⟩:=I.list (eN.of ha);have hlen:B'.length=ys.length:=by rw [<-ri.length,l.length]
     obtain ⟨as,ra⟩:=RpL.reads I l ri;have la:=l.lay;have item:∀v∈B',∃d∈ys,∃bs,Reads s.heap v d bs/\d.canLay0=true:=l0 ra la;refine xO (κ:=tuples' true) (key:=GF s.heap) pl.isList (by rw [hlen]; exact hz.many) (fun A' s' Q' E' hA kp h2 hq=>?_) (fun A' s' u v Q' E' hA kp hi hj hq=>?_) fun out o1 o2=>?_
     ·
      rcases hz.head with hh|hh
      ·obtain ⟨fs,f1,f2,f3⟩:=yZ (h:=s'.heap) B' fun v hv=>by
        obtain ⟨d,Ng,bs,rd,ld⟩:=item v hv;obtain ⟨i,cF,ed⟩:=hh d Ng;subst ed;cases rd with
        |@tuple b o OW n _ _ g1 g2 g3 g4=>
         cases g4':OW.toList with
         |nil=>rw [g4'] at g4; cases g4
         |cons v0 vr=>
          rw [g4'] at g4;cases g4 with
          |cons g5 g6=>
           cases g5 with
           |int _ t=>exact ⟨b,o,OW,n,i,t,rfl,kp b o g1,g2,g3,by rw [<-Array.getElem?_toList,g4']; rfl⟩
       refine PySem.W.kat_kind (T:=.type "int") f1 0x1 (fun v hv=>?_) (by rfl) hq;obtain ⟨i,t,rfl⟩:=f3 v hv;exact PySem.W.Looks.now
      ·obtain ⟨fs,f1,f2,f3⟩:=vh (h:=s'.heap) B' fun v hv=>by
        obtain ⟨d,Ng,bs,rd,ld⟩:=item v hv;obtain ⟨i,cF,ed⟩:=hh d Ng;subst ed;cases rd with
        |@tuple b o OW n _ _ g1 g2 g3 g4=>
         cases g4':OW.toList with
         |nil=>rw [g4'] at g4; cases g4
         |cons v0 vr=>
          rw [g4'] at g4;cases g4 with
          |cons g5 g6=>
           cases g5 with
           |str _ t=>exact ⟨b,o,OW,n,i,t,rfl,kp b o g1,g2,g3,by rw [<-Array.getElem?_toList,g4']; rfl⟩
       refine PySem.W.kat_kind (T:=.type "str") f1 0x1 (fun v hv=>?_) (by rfl) hq;obtain ⟨i,t,rfl⟩:=f3 v hv;exact PySem.W.Looks.now
     ·obtain ⟨d1,OJ,bs1,rd1,ld1⟩:=item u hi;obtain ⟨d2,hd2,bs2,rd2,ld2⟩:=item v hj;rw [oR rd1 ld1,oR rd2 ld2] at hq;obtain ⟨b,hb⟩:=Lk.mp (hz.cmp d1 OJ d2 hd2);rw [wJ (hz.ok d1 OJ) (hz.ok d2 hd2) hb] at hq;have dp1:=hz.deep d1 OJ;have rd1':=Reads.keeps kp rd1;have rd2':=Reads.keeps kp rd2;have Oz:(∃x r x' r',d1=.tuple (.int x::r)/\d2=.tuple (.int x'::r'))\/(∃x r x' r',d1=.tuple (.str x::r)/\d2=.tuple (.str x'::r')):=by
       rcases hz.head with hh|hh
       ·obtain ⟨x,r,e1⟩:=hh d1 OJ;obtain ⟨x',r',e2⟩:=hh d2 hd2;exact .inl ⟨x,r,x',r',e1,e2⟩
       ·obtain ⟨x,r,e1⟩:=hh d1 OJ;obtain ⟨x',r',e2⟩:=hh d2 hd2;exact .inr ⟨x,r,x',r',e1,e2⟩
      obtain ⟨xs1,e1⟩:∃l,d1=.tuple l:=by
       rcases Oz with ⟨x,r,x',r',e1,e2⟩|⟨x,r,x',r',e1,e2⟩ <;> exact ⟨_,e1⟩
      obtain ⟨xs2,e2⟩:∃l,d2=.tuple l:=by
       rcases Oz with ⟨x,r,x',r',e1,e2⟩|⟨x,r,x',r',e1,e2⟩ <;> exact ⟨_,e2⟩
      subst e1; subst e2
      unfold cD at hb;unfold PyData.canLay0 at ld1 ld2;unfold PyData.depth at dp1;cases rd1' with
      |@tuple b1 o1 vs1 n1 _ _ g1 g2 g3 g4=>
       cases rd2' with
       |@tuple b2 o2 vs2 n2 _ _ k1 k2 k3 k4=>
        refine PySem.W.kat_lt g1 g3 k1 k3 (va (X:=vs1.size) (Y:=vs2.size) 0 g4 k4 ld1 ld2 0x1 (by simp; lia) (fun _=>?_) hb hq);rcases Oz with ⟨x,r,x',r',e1,e2⟩|⟨x,r,x',r',e1,e2⟩
        ·cases e1; cases e2; exact .inl ⟨_,_,_,_,rfl,rfl⟩
        ·cases e1; cases e2; exact .inr ⟨_,_,_,_,rfl,rfl⟩
     ·
      obtain ⟨is,i1,i2⟩:=zK (d:=Value.none) o1;have LM:∀i∈is,i<ys.length:=fun i hi=>by
       have:=Lh.mp (i1.mem_iff.mp hi);lia
      have hl':=l.pick is LM;have Oe:=sd ri is fun i hi=>by rw [<-l.length]; exact LM i hi
      have ed:(is.map fun i=>ys.getD i .none)=uj ys:=by
       have hp:(is.map fun i=>ys.getD i .none).Perm ys:=by
        have:=i1.map fun i=>ys.getD i .none;rw [hlen,lN] at this;exact this
       refine qE (hp.trans (dY ys).symm) ?_ (mh ys) (fun x hx=>hz.ok x (hp.mem_iff.mp hx)) fun x hx y hy=>hz.cmp x (hp.mem_iff.mp hx) y (hp.mem_iff.mp hy);rw [i2] at o2;have o3:=List.pairwise_map.mp o2;refine List.pairwise_map.mpr (o3.imp_of_mem fun {i j} hi hj Oh=>?_);obtain ⟨bs1,k1,k2⟩:=iz ra la i (LM i hi);obtain ⟨bs2,k3,k4⟩:=iz ra la j (LM j hj);rw [oR k1 k2,oR k3 k4] at Oh;exact Oh
      rw [i2];rw [ed] at hl';obtain ⟨ep,hat⟩:=sortedAll_at s.heap B' (is.map fun i=>B'.getD i Value.none).toArray;have hn:s.heap.objs.size<=s.heap.objs.size+1:=Nat.le_succ _;refine ⟨.ref (s.heap.objs.size+1),bX H (s.heap.objs.size+1) (.lst (is.map fun i=>ws.getD i .non)),I.laid (t':=s.toks) (fun b o e=>sortedAll_old e) hn ⟨?_,_,ep,Oe,hat⟩,rfl,q _ _ (bw (I.hok.fresh hn)) (RE.made hs (I.hok.fresh hn) hl')⟩;rw [<-hl'.length,(dY ys).length_eq,l.length]; exact hzz
  ·cases e2
 ·cases e
end
def Jm (O P:List Addr) (H:Hp) (J:It) (xs:List D):Prop:=∀(i:Nat) (H':Hp),aF H H' ->
 (∀d,xs[i]?=some d->J.go i H'/\∀x H2,J.yld i H' x H2->H2=H'/\Rp (P++O) H' d x)/\(xs.length<=i->J.stop i H')
def JI (E:XK) (O P:List Addr) (H:Hp) (R:It->Hp->Prop):Except Value (List D)->Prop
 |.ok xs=>∀J H',aF H H'->Jm O P H' J xs->R J H'
 |.error c=>∀dx H',aF H H'->E c dx H'
def Kt (E:XK) (f:DS->M (List D)):TI:=fun σ H R=>∃O P δ r,RS O P H σ δ/\f δ=some r/\JI E O P H R r
def Ib (X:Cx) (E:XK) (tg iter:Expr) (f:DS->M (List D)):Prop:=PI X tg iter (Kt E f)
noncomputable def Jv (f:DS->M DV) (δ:DS):M (List D):=bd (f δ) fun x=>op (k7 x)
section
variable {X:Cx} {E:XK} {tg e:Expr} {f:DS->M DV}
theorem IA (he:PX X E e f):Ib X E tg e (Jv f):=PI.mono (yV he) fun σ H R q=>by
 obtain ⟨O,P,δ,r,rs,e,q⟩:=q;rcases az e with ⟨x,e1,e2⟩|⟨cx,e1,e2⟩
 ·refine ⟨O,P,δ,.ok x,rs,e1,fun v H1 s1 rx=>?_⟩;cases e3:k7 x with
  |none=>rw [e3] at e2; cases e2
  |some xs=>
   rw [e3] at e2;cases e2;obtain ⟨a,ws,rfl,ha,l⟩:=rx.list e3;refine ⟨a,rfl,⟨ws,eN.of ha⟩,q _ H1 s1 fun i H' k=>?_⟩;have Ms:=k a _ ha;have l':=l.kp (.same k);refine ⟨fun d hd=>?_,fun h=>⟨ws,eN.of Ms,by rw [<-l.length]; exact h⟩⟩;obtain ⟨y,hy,ry⟩:=l'.get hd;refine ⟨⟨ws,y,eN.of Ms,hy⟩,fun z H2 ⟨e4,e5⟩=>⟨e4,?_⟩⟩;have:=e5 ws (eN.of Ms);rw [hy] at this;cases this; exact ry
 ·subst e2;exact ⟨O,P,δ,.error cx,rs,e1,q⟩
end
section
variable {X:Cx} {E:XK} {k:Nat} {js:List Nat} {N':List Str} {scope:Scope} {elt tg iter:Expr} {ifs:List Expr} {pos:Pos} {fi:DS->M (List D)} {g:TG} {sf:D->DS->Option DS} {gc:DS->M Bool} {fe:DS->M DV}
theorem xK (hj:js.Nodup) (ht:C7 g sf) (LR:∀δ d δ1,sf d (cj k js δ)=some δ1->Sub (cj k js δ) δ1) {σ:St} {H:Hp} {Q:VK} (q:tE E (aK k js fi sf gc fe) σ H Q):vU (Kt E fi) k js g (zm E0 gc) (tE E0 fe) σ H Q:=by
 obtain ⟨O,P,δ,r,rs,e,q⟩:=q;rcases az e with ⟨xs,e1,e2⟩|⟨cx,e1,e2⟩
 ·refine ⟨O,P,δ,.ok xs,rs,e1,fun J H1 s1 it=>?_⟩;split at e2
  ·rename_i hz;obtain ⟨ys,e3,e4⟩:=bQ e2;cases e4;have hlen:=kx e3;refine ⟨fun i m σ' H' vs=>m=xs.length-i/\i<=xs.length/\aF H1 H'/\RS O P H' σ' (cj k js δ)/\∃ds es,RpL (P++O) H' ds vs/\cB sf gc fe (cj k js δ) (xs.drop i)=some es/\ys=ds++es,
    ⟨xs.length,0x4,Lo _,aF.refl H1,(rs.same s1).block k js hj,[],ys,.nil,e3,rfl⟩,?_⟩
   rintro i m σ' H' vs ⟨rfl,hi,sH,LY,ds,es,l,ec,ey⟩;have hvl:vs.length<=ys.length:=by rw [ey,<-l.length]; simp
   by_cases LM:i<xs.length
   ·refine .inr ?_;rw [List.drop_eq_getElem_cons LM] at ec;unfold cB at ec;obtain ⟨go,yl⟩:=(it i H' sH).1 xs[i] (by simp [LM]);split at ec
    ·cases ec
    ·rename_i δ1 e5;refine ⟨go,Nat.lt_of_le_of_lt (Lp hvl (Lp hlen hz)) (by rw [sizeLine_eq]; decide),fun x H2 hy=>?_⟩;obtain ⟨rfl,rx⟩:=yl x H2 hy;refine ht O P H2 σ' _ δ1 _ x _ LY rx e5 fun σ1 LC=>?_;have Oc:=LR δ _ δ1 e5;split at ec
     ·rename_i e6;refine ⟨O,P,δ1,.ok false,LC,e6,fun H3 s3=>?_⟩;exact Ac ⟨xs.length-(i+1),0x1,rfl,LM,sH.trans s3,(LC.same s3).forget Oc,ds,es,l.kp (.same s3),ec,ey⟩
     ·rename_i e6;refine ⟨O,P,δ1,.ok true,LC,e6,fun H3 s3=>?_⟩;refine z5 ?_;split at ec
      ·rename_i y e7;split at ec
       ·rename_i z zs e8 e9;cases ec;refine ⟨O,P,δ1,.ok y,LC.same s3,e7,fun v H4 s4 ry=>?_⟩;refine ⟨xs.length-(i+1),0x1,rfl,LM,sH.trans (s3.trans s4),(LC.same (s3.trans s4)).forget Oc,ds++[z],zs,(l.kp (.same (s3.trans s4))).append (.cons (ry.data (LC.same s3).dom e8) .nil),e9,?_⟩;rw [ey,List.append_assoc]; rfl
       ·cases ec
      ·cases ec
     ·cases ec
   ·have Mu:i=xs.length:=by lia
    subst Mu;rw [List.drop_length] at ec;cases ec;refine .inl ⟨(it _ H' sH).2 (K2 _),Lp hvl (line_big (Lp hlen hz)),fun p hp=>?_⟩;rw [ey,List.append_nil] at q;exact q _ _ ((s1.trans sH).trans (bw hp)) (RE.made (s1.trans sH) hp l)
  ·cases e2
 ·subst e2;exact ⟨O,P,δ,.error cx,rs,e1,q⟩
theorem CH (S:CompFit X k js N' scope) (hj:js.Nodup) (hc:X.calm=true) (hi:Ib X E tg iter fi) (ht:C7 g sf) (LR:∀δ d δ1,sf d (cj k js δ)=some δ1->Sub (cj k js δ) δ1)
  (hg:∀C s₂ H₂ fp,PG (aQ X N' scope C s₂ H₂ fp) tg g) (hf:∀C s₂ H₂ fp,PF (aQ X N' scope C s₂ H₂ fp) ifs (zm E0 gc)) (he:∀C s₂ H₂ fp,PX (aQ X N' scope C s₂ H₂ fp) E0 elt fe)
  (hs:∀x,foldedSetIterable iter X.env x=pure x:=by intro _; rfl):PX X E (.ListComp elt [⟨tg,iter,ifs,0⟩] scope pos) (aK k js fi sf gc fe):=
 PE.mono (zf S hc hi hg hf he hs) fun σ H Q q=>xK hj ht LR q
end
end L3
namespace LW
open PySem PySem.Spec L2 L3
noncomputable def vP (C:Addr):DS->M Out:=(bH (aR 4 (e2 gSub (e2 aw (af 2) (af 3)) (eC (.int 1)))) (bt (m6 (e2 HH (af 3) (eC (.int 3))) (m6 (aN (ay 2 (bY C)) (aa (af 0) (aa (aZ (aa (af 2) (aa (af 1) ai))) ai))) (aN (ay 2 (bY C)) (aa (af 0) (aa (aZ (aa (af 4) (aa (af 1) ai))) ai)))))))
noncomputable def jO (C:Addr):List DV->M DV:=eE ["house", "colour", "first", "size", "last"] (vP C)
noncomputable def pS (C:Addr):DS->M Out:=(bH (eQ (fun δ=>bd (e2 gn (aN cy (aa (af 2) ai)) (eC (.int 3)) δ) bD) (bt (eC (.bool false))) bK) (bH (eQ (gw (fun δ=>bd ((aN oi (aa (aK 1 [0,1] (Hu (af 2)) (aq 0) bA (aN (ay 2 (bY C)) (aa (af 1) (aa (aZ (aa (af 2) (aa (af 0) ai))) ai)))) ai)) δ) bD)) (bt (eC (.bool false))) bK) (bt (aN oi (aa (aK 1 [2] (k8 (aa (eC (.int 1)) (aa (aN cy (aa (af 2) ai)) ai))) (aq 0) bA (e2 gn (e2 cb (af 1) (e2 gSub (af 0) (eC (.int 1)))) (e2 cb (af 1) (af 0)))) ai)))))
noncomputable def gZ (C:Addr):List DV->M DV:=eE ["house", "number", "colours"] (pS C)
noncomputable def nt (C:Addr):DS->M Out:=(bH (eQ (fun δ=>bd (e2 (gx false) (e2 cb (af 1) (eC (.int 0))) (eC (.str "run")) δ) bD) (bt (aN (ay 4 (jO C)) (aa (af 0) (aa (e2 cb (af 1) (eC (.int 1))) (aa (e2 cb (af 1) (eC (.int 2))) (aa (e2 cb (af 1) (eC (.int 3))) ai)))))) bK) (bt (m6 (e2 (gx false) (e2 cb (af 1) (eC (.int 0))) (eC (.str "group"))) (aN (ay 3 (gZ C)) (aa (af 0) (aa (e2 cb (af 1) (eC (.int 1))) (aa (e2 cb (af 1) (eC (.int 2))) ai)))))))
noncomputable def c7 (C:Addr):List DV->M DV:=eE ["house", "meld"] (nt C)
noncomputable def lp (C:Addr) (K9:Addr):DS->M Out:=(bH (eQ (gw (fun δ=>bd ((aN (ay 2 (c7 C)) (aa (af 0) (aa (af 1) ai))) δ) bD)) (fun _=>some (.error (.ref K9))) bK) (bH (eQ (fun δ=>bd (e2 (gx false) (e2 cb (af 1) (eC (.int 0))) (eC (.str "run")) δ) bD) (bt (aK 1 [1] (lx (aa (e2 cb (af 1) (eC (.int 3))) ai)) (aq 0) bA (aZ (aa (e2 aw (e2 cb (af 1) (eC (.int 2))) (af 0)) (aa (e2 cb (af 1) (eC (.int 1))) ai))))) bK) (bt (aK 1 [1] (Hu (e2 cb (af 1) (eC (.int 2)))) (aq 0) bA (aZ (aa (e2 cb (af 1) (eC (.int 1))) (aa (af 0) ai)))))))
noncomputable def cQ (C:Addr) (K9:Addr):List DV->M DV:=eE ["house", "meld"] (lp C K9)
noncomputable def i6 (C:Addr):DS->M Out:=(bH (aR 1 (bV (aa (aZ ai) ai))) (bH (b9 (lx (aa (ft C "colours" (af 0)) ai)) (aq 2) (fun δ=>(aR 1 (e2 aw (af 1) (aK 1 [2] (iw (af 1)) (aq 0) bA (e2 aw (af 0) (aZ (aa (af 1) ai)))))) (frz 1 δ))) (fun δ=>(bt (aN lD (aa (aK 1 [] (iw (af 1)) (aq 0) (fun δ=>bd (e2 HH (aN cy (aa (af 0) ai)) (eC (.int 3)) δ) bD) (af 0)) ai))) (frz 1 δ))))
noncomputable def cp (C:Addr):List DV->M DV:=eE ["house", "choices", "colour"] (i6 C)
noncomputable def lY (C:Addr):DS->M Out:=(bH (aR 1 (aN (ay 1 (cp C)) (aa (af 0) ai))) (bH (aR 2 (bV ai)) (bH (b9 (k8 (aa (eC (.int 1)) (aa (e2 aw (ft C "most" (af 0)) (eC (.int 1))) ai))) (aq 3) (fun δ=>(nI 2 (aK 1 [3] (iw (af 1)) (aq 0) bA (aZ (aa (eC (.str "group")) (aa (af 1) (aa (af 0) ai)))))) (frz 1 δ))) (bt (af 2)))))
noncomputable def d0 (C:Addr):List DV->M DV:=eE ["house", "choices", "found", "number"] (lY C)
noncomputable def pI (C:Addr):DS->M Out:=(bH (aR 1 (bV ai)) (bH (b9 (lx (aa (ft C "colours" (af 0)) ai)) (aq 2) (b9 (k8 (aa (eC (.int 1)) (aa (e2 aw (ft C "most" (af 0)) (eC (.int 1))) ai))) (aq 3) (bH (aR 4 (e2 aw (e2 gSub (ft C "most" (af 0)) (af 3)) (eC (.int 1)))) (nI 1 (aK 1 [2,3] (k8 (aa (eC (.int 3)) (aa (e2 aw (af 4) (eC (.int 1))) ai))) (aq 0) bA (aZ (aa (eC (.str "run")) (aa (af 1) (aa (af 2) (aa (af 0) ai)))))))))) (bt (af 1))))
noncomputable def fN (C:Addr):List DV->M DV:=eE ["house", "found", "colour", "first", "room"] (pI C)
noncomputable def yG (C:Addr):DS->M Out:=(bt (e2 aw (aN (ay 1 (d0 C)) (aa (af 0) ai)) (aN (ay 1 (fN C)) (aa (af 0) ai))))
noncomputable def mG (C:Addr):List DV->M DV:=eE ["house"] (yG C)
noncomputable def jn:DS->M Out:=(bH (eQ (fun δ=>bd (e2 (gx false) (e2 cb (af 0) (eC (.int 0))) (eC (.str "run")) δ) bD) (bt (aK 1 [0] (lx (aa (e2 cb (af 0) (eC (.int 3))) ai)) (aq 0) bA (aZ (aa (e2 aw (e2 cb (af 1) (eC (.int 2))) (af 0)) (aa (e2 cb (af 1) (eC (.int 1))) ai))))) bK) (bt (aK 1 [0] (Hu (e2 cb (af 0) (eC (.int 2)))) (aq 0) bA (aZ (aa (e2 cb (af 1) (eC (.int 1))) (aa (af 0) ai))))))
noncomputable def bq:List DV->M DV:=eE ["meld"] (jn)
noncomputable def me:DS->M Out:=(bH (aR 2 (bV ai)) (bH (b9 (lx (aa (af 1) ai)) (aq 3) (b9 (k8 (aa (eC (.int 1)) (aa (e2 aw (af 0) (eC (.int 1))) ai))) (aq 4) (aR 2 (e2 aw (af 2) (aK 1 [3,4] (k8 (aa (e2 aw (af 4) (eC (.int 2))) (aa (e2 aw (af 0) (eC (.int 1))) ai))) (aq 0) bA (aZ (aa (eC (.str "run")) (aa (af 1) (aa (af 2) (aa (e2 aw (e2 gSub (af 0) (af 2)) (eC (.int 1))) ai)))))))))) (bH (aR 5 (bV (aa (bV ai) ai))) (bH (b9 (lx (aa (af 1) ai)) (aq 3) (fun δ=>(aR 5 (e2 aw (af 5) (aK 1 [3] (iw (af 5)) (aq 0) bA (e2 aw (af 0) (bV (aa (af 1) ai)))))) (frz 5 δ))) (bH (b9 (k8 (aa (eC (.int 1)) (aa (e2 aw (af 0) (eC (.int 1))) ai))) (aq 6) (fun δ=>(aR 2 (e2 aw (af 2) (aK 1 [6] (iw (af 5)) (aq 0) (fun δ=>bd (e2 mY (aN cy (aa (af 0) ai)) (eC (.int 2)) δ) bD) (aZ (aa (eC (.str "group")) (aa (af 1) (aa (aN qD (aa (af 0) ai)) ai))))))) (frz 5 δ))) (bt (aN pX (aa (af 2) ai))))))))
noncomputable def eX:List DV->M DV:=eE ["most", "colours", "found", "colour", "first", "kinds", "number"] (me)
section
variable {F G:DS->M Out} {f fa fb fc fd:DS->M DV} {fr:DS->M (List DV)} {gc:DS->M Bool} {g:DV->DV->M DV} {δ δ':DS} {x y z u:DV} {k:Bool}
theorem BS {a b:Bool} (h1:fa δ=rt (.d (.bool a))) (h2:fb δ=rt (.d (.bool b))):m6 fa fb δ=rt (.d (.bool (a&&b))):=by
 unfold m6;rw [h1,aE,yB,aE,h2];cases a <;> rfl
theorem Fv (h1:fa δ=rt x) (h2:fb δ=rt y) (h3:fc δ=rt z) (h4:fd δ=rt u):aa fa (aa fb (aa fc (aa fd ai))) δ=rt [x,y,z,u]:=by
 have:=fW h2 h3 h4;unfold aa at this ⊢;rw [h1,aE,this]; rfl
theorem Fx {a b c:D} (h1:fa δ=rt (.d a)) (h2:fb δ=rt (.d b)) (h3:fc δ=rt (.d c)):aZ (aa fa (aa fb (aa fc ai))) δ=rt (.d (.tuple [a,b,c])):=by
 unfold aZ;rw [fW h1 h2 h3];rfl
theorem FL {a b c e:D} (h1:fa δ=rt (.d a)) (h2:fb δ=rt (.d b)) (h3:fc δ=rt (.d c)) (h4:fd δ=rt (.d e)):aZ (aa fa (aa fb (aa fc (aa fd ai)))) δ=rt (.d (.tuple [a,b,c,e])):=by
 unfold aZ;rw [Fv h1 h2 h3 h4];rfl
theorem lL (h:gc δ=rt true):eQ gc F G δ=F δ:=by rw [jz h]; rfl
theorem qo (h:gc δ=rt false):eQ gc F G δ=G δ:=by rw [jz h]; rfl
variable {xs:List D}
theorem xN (h:f δ=rt (.d (.tuple xs))):Hu f δ=rt xs:=by unfold Hu; rw [h]; rfl
theorem HD (h:f δ=rt x) (hx:k7 x=some xs):Jv f δ=rt xs:=by unfold Jv; rw [h,aE,hx]; rfl
theorem sG (h:f δ=rt (.new xs)):iw f δ=rt xs:=by unfold iw; rw [h]; rfl
theorem wI {i:Nat} {ys:List D} (hi:δ[i]?=some (some (.own xs))) (h:f δ=rt (.new ys)) (hl:xs.length+ys.length<=1000000):nI i f δ=rt (.nx (δ.set i (some (.own (xs++ys))))):=by
 unfold nI;rw [hi];simp only;rw [h,aE];exact if_pos hl
end
theorem bp (i j:Int):aw (.d (.int i)) (.d (.int j))=rt (.d (.int (i+j))):=rfl
variable {xs:List D}
theorem hW {x y:DV} {ys:List D} (h0:CU x y=none) (hx:k7 x=some xs) (hy:k7 y=some ys) (hl:xs.length+ys.length<=1000000):aw x y=rt (.new (xs++ys)):=by
 unfold aw Di;rw [C6 h0 hx hy hl];rfl
noncomputable def rn (c f n:Int):D:=.tuple [.str "run",.int c,.int f,.int n]
noncomputable def tp (cs:List Int):D:=.tuple (cs.map PyData.int)
noncomputable def gp (n:Int) (cs:List Int):D:=.tuple [.str "group",.int n,tp cs]
theorem tf:PyData.eqv (.str "run") (.str "run")=true:=by decide +kernel
theorem uo:PyData.eqv (.str "group") (.str "run")=false:=by decide +kernel
theorem HF:PyData.eqv (.str "run") (.str "group")=false:=by decide +kernel
theorem AZ:PyData.eqv (.str "group") (.str "group")=true:=by decide +kernel
theorem pV {a b:Str} {k:Bool} (h:PyData.eqv (.str a) (.str b)=k):gx false (.d (.str a)) (.d (.str b))=rt (.d (.bool k)):=by
 unfold gx;rw [r9,r9];simp only [Bool.false_eq_true,if_false,h];exact if_pos (by unfold PyData.depth; lia)
noncomputable def mj (m c col f n:Int):Bool:=decide (3<=n)&&(bh m c (f,col)&&bh m c (f+n-1,col))
variable {fa:DS->M DV} {δ:DS}
theorem Cr {C:Addr} {m c a b:Int} {fb:DS->M DV} (h1:fa δ=rt (hs C m c)) (h2:fb δ=rt (.d (pr (a,b)))):aN (ay 2 (bY C)) (aa fa (aa fb ai)) δ=rt (.d (.bool (bh m c (a,b)))):=
 aY (bW h1 h2) rfl rfl (AE C m c (a,b))
theorem CF (C:Addr) (m c col f n:Int):jO C [hs C m c,.d (.int col),.d (.int f),.d (.int n)]=rt (.d (.bool (mj m c col f n))):=by
 unfold jO vP eE;have hd:mS ["house", "colour", "first", "size", "last"] [hs C m c,.d (.int col),.d (.int f),.d (.int n)]=[some (hs C m c),some (.d (.int col)),some (.d (.int f)),some (.d (.int n)),none]:=rfl;rw [hd];have s1:aR 4 (e2 gSub (e2 aw (af 2) (af 3)) (eC (.int 1))) [some (hs C m c),some (.d (.int col)),some (.d (.int f)),some (.d (.int n)),none]=rt (.nx [some (hs C m c),some (.d (.int col)),some (.d (.int f)),some (.d (.int n)),some (.d (.int (f+n-1)))]):=
  jk (x:=.d (.int (f+n-1))) ((au ((au rfl rfl).trans (bp f n)) rfl).trans (dq _ _)) rfl
 rw [cg s1];rw [bG (BS ((au (x:=.d (.int n)) (y:=.d (.int 3)) rfl rfl).trans (kH _ _)) (BS (Cr (a:=f) (b:=col) rfl (fR rfl rfl)) (Cr (a:=f+n-1) (b:=col) rfl (fR rfl rfl))))];rfl
noncomputable def asc (cs:List Int):Bool:=(List.range (cs.length-1)).all fun k=>decide (cs.getD k 0<cs.getD (k+1) 0)
noncomputable def mL (m c n:Int) (cs:List Int):Bool:=decide (3<=cs.length)&&cs.all (fun x=>bh m c (n,x))&&asc cs
theorem yS (cs:List Int):cy [.d (tp cs)]=rt (.d (.int (cs.length:Int))):=by
 show rt (DV.d (.int ((cs.map PyData.int).length:Int)))=_;rw [List.length_map]
theorem xi (C:Addr) (m c n:Int) (cs:List Int) (hl:cs.length<=900):gZ C [hs C m c,.d (.int n),.d (tp cs)]=rt (.d (.bool (mL m c n cs))):=by
 unfold gZ pS eE;have hd:mS ["house", "number", "colours"] [hs C m c,.d (.int n),.d (tp cs)]=[some (hs C m c),some (.d (.int n)),some (.d (tp cs))]:=rfl;rw [hd];have t1:(fun δ=>bd (e2 gn (aN cy (aa (af 2) ai)) (eC (.int 3)) δ) bD) [some (hs C m c),some (.d (.int n)),some (.d (tp cs))]=rt (decide ((cs.length:Int)<3)):=
  aU ((au (y:=.d (.int 3)) ((cm (bj (x:=.d (tp cs)) rfl)).trans (yS cs)) rfl).trans (d9 _ _))
 unfold mL;by_cases h3:3<=cs.length
 ·have e3:decide ((cs.length:Int)<3)=false:=Lr 0x1;rw [e3] at t1;rw [cg ((qo t1).trans (show bK _=_ from rfl))];have c1:cB (aq 0) bA (aN (ay 2 (bY C)) (aa (af 1) (aa (aZ (aa (af 2) (aa (af 0) ai))) ai))) (cj 1 [0,1] [some (hs C m c),some (.d (.int n)),some (.d (tp cs))]) (cs.map PyData.int)=some ((cs.map fun x=>bh m c (n,x)).map PyData.bool):=by
   rw [List.map_map];refine cK fun x hx=>?_;exact Cr (a:=n) (b:=x) rfl (fR rfl rfl)
  have t2:(gw (fun δ=>bd ((aN oi (aa (aK 1 [0,1] (Hu (af 2)) (aq 0) bA (aN (ay 2 (bY C)) (aa (af 1) (aa (aZ (aa (af 2) (aa (af 0) ai))) ai)))) ai)) δ) bD)) [some (hs C m c),some (.d (.int n)),some (.d (tp cs))]=rt (!cs.all fun x=>bh m c (n,x)):=by
   refine tF (aU ((cm (bj (bb (xN (xs:=cs.map PyData.int) rfl) (by rw [List.length_map]; lia) c1))).trans ?_));rw [l6,List.all_map];rfl
  cases ha:cs.all fun x=>bh m c (n,x) with
  |false=>
   rw [ha] at t2;rw [ro ((lL t2).trans (bG (x:=.d (.bool false)) rfl))];rw [Bool.and_false,Bool.false_and];rfl
  |true=>
   rw [ha] at t2;rw [cg ((qo t2).trans (show bK _=_ from rfl))];have hat:∀k:Nat,k<cs.length->atI (cs.map PyData.int) (k:Int)=some (.int (cs.getD k 0)):=fun k hk=>by
    rw [xH (by rw [List.length_map]; exact hk) (.int 0)];simp [hk]
   have c2:cB (aq 0) bA (e2 gn (e2 cb (af 1) (e2 gSub (af 0) (eC (.int 1)))) (e2 cb (af 1) (af 0))) (cj 1 [2] [some (hs C m c),some (.d (.int n)),some (.d (tp cs))]) (cH 1 ((cs.length:Int)-1).toNat)=some (((List.range (cs.length-1)).map fun k=>decide (cs.getD k 0<cs.getD (k+1) 0)).map PyData.bool):=by
    rw [show ((cs.length:Int)-1).toNat=cs.length-1 by lia,List.map_map];unfold cH;refine cK fun k hk=>?_;have hk':k<cs.length-1:=Lh.mp hk;have i1:e2 cb (af 1) (e2 gSub (af 0) (eC (.int 1))) ((cj 1 [2] [some (hs C m c),some (.d (.int n)),some (.d (tp cs))]).set 0 (some (.d (.int (1+(k:Int))))))=rt (.d (.int (cs.getD k 0))):=by
     refine (au (x:=.d (tp cs)) rfl ((au (x:=.d (.int (1+(k:Int)))) rfl rfl).trans (dq _ _))).trans (a5 ?_);rw [show (1+(k:Int)-1)=(k:Int) by lia];exact hat k 0x1
    have i2:e2 cb (af 1) (af 0) ((cj 1 [2] [some (hs C m c),some (.d (.int n)),some (.d (tp cs))]).set 0 (some (.d (.int (1+(k:Int))))))=rt (.d (.int (cs.getD (k+1) 0))):=by
     refine (au (x:=.d (tp cs)) (y:=.d (.int (1+(k:Int)))) rfl rfl).trans (a5 ?_);rw [show (1+(k:Int))=((k+1:Nat):Int) by lia];exact hat (k+1) 0x1
    exact (au i1 i2).trans (d9 _ _)
   have HY:aN cy (aa (af 2) ai) [some (hs C m c),some (.d (.int n)),some (.d (tp cs))]=rt (.d (.int (cs.length:Int))):=(cm (bj (x:=.d (tp cs)) rfl)).trans (yS cs);have e1:aN oi (aa (aK 1 [2] (k8 (aa (eC (.int 1)) (aa (aN cy (aa (af 2) ai)) ai))) (aq 0) bA (e2 gn (e2 cb (af 1) (e2 gSub (af 0) (eC (.int 1)))) (e2 cb (af 1) (af 0)))) ai) [some (hs C m c),some (.d (.int n)),some (.d (tp cs))]=rt (.d (.bool (asc cs))):=by
    refine (cm (bj (bb (gN (bW (x:=.d (.int 1)) rfl HY) 0x1 0x1 0x1 0x1) (by rw [dt]; lia) c2))).trans ?_;rw [l6,List.all_map];rfl
   rw [bG e1];rw [Ls h3];rfl
 ·have e3:decide ((cs.length:Int)<3)=true:=Ls 0x1;rw [e3] at t1;rw [ro ((lL t1).trans (bG (x:=.d (.bool false)) rfl))];rw [Lr h3];rfl
theorem xy (C:Addr) (m c col f n:Int):c7 C [hs C m c,.d (rn col f n)]=rt (.d (.bool (mj m c col f n))):=by
 unfold c7 nt eE;have hd:mS ["house", "meld"] [hs C m c,.d (rn col f n)]=[some (hs C m c),some (.d (rn col f n))]:=rfl;rw [hd];have t1:(fun δ=>bd (e2 (gx false) (e2 cb (af 1) (eC (.int 0))) (eC (.str "run")) δ) bD) [some (hs C m c),some (.d (rn col f n))]=rt true:=
  aU ((au ((au (x:=.d (rn col f n)) rfl rfl).trans (a5 rfl)) rfl).trans (pV tf))
 have i1:e2 cb (af 1) (eC (.int 1)) [some (hs C m c),some (.d (rn col f n))]=rt (.d (.int col)):=(au (x:=.d (rn col f n)) rfl rfl).trans (a5 rfl);have i2:e2 cb (af 1) (eC (.int 2)) [some (hs C m c),some (.d (rn col f n))]=rt (.d (.int f)):=(au (x:=.d (rn col f n)) rfl rfl).trans (a5 rfl);have i3:e2 cb (af 1) (eC (.int 3)) [some (hs C m c),some (.d (rn col f n))]=rt (.d (.int n)):=(au (x:=.d (rn col f n)) rfl rfl).trans (a5 rfl);rw [ro ((lL t1).trans (bG (aY (n:=4) (Fv (fa:=af 0) (x:=hs C m c) rfl i1 i2 i3) rfl rfl (CF C m c col f n))))];rfl
theorem xw (C:Addr) (m c n:Int) (cs:List Int) (hl:cs.length<=900):c7 C [hs C m c,.d (gp n cs)]=rt (.d (.bool (mL m c n cs))):=by
 unfold c7 nt eE;have hd:mS ["house", "meld"] [hs C m c,.d (gp n cs)]=[some (hs C m c),some (.d (gp n cs))]:=rfl;rw [hd];have t1:(fun δ=>bd (e2 (gx false) (e2 cb (af 1) (eC (.int 0))) (eC (.str "run")) δ) bD) [some (hs C m c),some (.d (gp n cs))]=rt false:=
  aU ((au ((au (x:=.d (gp n cs)) rfl rfl).trans (a5 rfl)) rfl).trans (pV uo))
 have i0:e2 (gx false) (e2 cb (af 1) (eC (.int 0))) (eC (.str "group")) [some (hs C m c),some (.d (gp n cs))]=rt (.d (.bool true)):=(au ((au (x:=.d (gp n cs)) rfl rfl).trans (a5 rfl)) rfl).trans (pV AZ);have i1:e2 cb (af 1) (eC (.int 1)) [some (hs C m c),some (.d (gp n cs))]=rt (.d (.int n)):=(au (x:=.d (gp n cs)) rfl rfl).trans (a5 rfl);have i2:e2 cb (af 1) (eC (.int 2)) [some (hs C m c),some (.d (gp n cs))]=rt (.d (tp cs)):=(au (x:=.d (gp n cs)) rfl rfl).trans (a5 rfl);rw [cg ((qo t1).trans (show bK _=_ from rfl))];rw [bG (BS i0 (aY (n:=3) (fW (fa:=af 0) (x:=hs C m c) rfl i1 i2) rfl rfl (xi C m c n cs hl)))];rfl
noncomputable def jL (col f n:Int):List D:=(List.range n.toNat).map fun (k:Nat)=>pr (f+(k:Int),col)
noncomputable def kl (n:Int) (cs:List Int):List D:=cs.map fun x=>pr (n,x)
theorem uZ (C E:Addr) (m c col f n:Int) (h0:-1000<=n) (h1:n<=1000):cQ C E [hs C m c,.d (rn col f n)]=if mj m c col f n=true then rt (.new (jL col f n)) else some (.error (.ref E)):=by
 unfold cQ lp eE;have hd:mS ["house", "meld"] [hs C m c,.d (rn col f n)]=[some (hs C m c),some (.d (rn col f n))]:=rfl;rw [hd];have t0:(gw (fun δ=>bd ((aN (ay 2 (c7 C)) (aa (af 0) (aa (af 1) ai))) δ) bD)) [some (hs C m c),some (.d (rn col f n))]=rt (!mj m c col f n):=
  tF (aU (aY (bW (x:=hs C m c) (y:=.d (rn col f n)) rfl rfl) rfl rfl (xy C m c col f n)))
 cases hr:mj m c col f n with
 |false=>
  rw [hr] at t0;have:eQ (gw (fun δ=>bd ((aN (ay 2 (c7 C)) (aa (af 0) (aa (af 1) ai))) δ) bD)) (fun _=>some (.error (.ref E))) bK [some (hs C m c),some (.d (rn col f n))]=some (.error (.ref E)):=lL t0;unfold bH;rw [this];rfl
 |true=>
  rw [hr] at t0;rw [cg ((qo t0).trans (show bK _=_ from rfl))];have t1:(fun δ=>bd (e2 (gx false) (e2 cb (af 1) (eC (.int 0))) (eC (.str "run")) δ) bD) [some (hs C m c),some (.d (rn col f n))]=rt true:=
   aU ((au ((au (x:=.d (rn col f n)) rfl rfl).trans (a5 rfl)) rfl).trans (pV tf))
  have i3:e2 cb (af 1) (eC (.int 3)) [some (hs C m c),some (.d (rn col f n))]=rt (.d (.int n)):=(au (x:=.d (rn col f n)) rfl rfl).trans (a5 rfl);have c1:cB (aq 0) bA (aZ (aa (e2 aw (e2 cb (af 1) (eC (.int 2))) (af 0)) (aa (e2 cb (af 1) (eC (.int 1))) ai))) (cj 1 [1] [some (hs C m c),some (.d (rn col f n))]) (cH 0 n.toNat)=some (jL col f n):=by
   unfold cH jL;refine cK fun k hk=>?_;have q1:e2 cb (af 1) (eC (.int 2)) ((cj 1 [1] [some (hs C m c),some (.d (rn col f n))]).set 0 (some (.d (.int (0+(k:Int))))))=rt (.d (.int f)):=(au (x:=.d (rn col f n)) rfl rfl).trans (a5 rfl);have q2:e2 cb (af 1) (eC (.int 1)) ((cj 1 [1] [some (hs C m c),some (.d (rn col f n))]).set 0 (some (.d (.int (0+(k:Int))))))=rt (.d (.int col)):=(au (x:=.d (rn col f n)) rfl rfl).trans (a5 rfl);refine (fR ((au (y:=.d (.int (0+(k:Int)))) q1 rfl).trans (bp _ _)) q2).trans ?_;rw [Int.zero_add]; rfl
  rw [ro ((lL t1).trans (bG (bb (fA (bj i3) h0 h1) (by rw [dt]; lia) c1)))];rfl
theorem u4 (C E:Addr) (m c n:Int) (cs:List Int) (hl:cs.length<=900):cQ C E [hs C m c,.d (gp n cs)]=if mL m c n cs=true then rt (.new (kl n cs)) else some (.error (.ref E)):=by
 unfold cQ lp eE;have hd:mS ["house", "meld"] [hs C m c,.d (gp n cs)]=[some (hs C m c),some (.d (gp n cs))]:=rfl;rw [hd];have t0:(gw (fun δ=>bd ((aN (ay 2 (c7 C)) (aa (af 0) (aa (af 1) ai))) δ) bD)) [some (hs C m c),some (.d (gp n cs))]=rt (!mL m c n cs):=
  tF (aU (aY (bW (x:=hs C m c) (y:=.d (gp n cs)) rfl rfl) rfl rfl (xw C m c n cs hl)))
 cases hr:mL m c n cs with
 |false=>
  rw [hr] at t0;have:eQ (gw (fun δ=>bd ((aN (ay 2 (c7 C)) (aa (af 0) (aa (af 1) ai))) δ) bD)) (fun _=>some (.error (.ref E))) bK [some (hs C m c),some (.d (gp n cs))]=some (.error (.ref E)):=lL t0;unfold bH;rw [this];rfl
 |true=>
  rw [hr] at t0;rw [cg ((qo t0).trans (show bK _=_ from rfl))];have t1:(fun δ=>bd (e2 (gx false) (e2 cb (af 1) (eC (.int 0))) (eC (.str "run")) δ) bD) [some (hs C m c),some (.d (gp n cs))]=rt false:=
   aU ((au ((au (x:=.d (gp n cs)) rfl rfl).trans (a5 rfl)) rfl).trans (pV uo))
  rw [cg ((qo t1).trans (show bK _=_ from rfl))];have i2:e2 cb (af 1) (eC (.int 2)) [some (hs C m c),some (.d (gp n cs))]=rt (.d (tp cs)):=(au (x:=.d (gp n cs)) rfl rfl).trans (a5 rfl);have c1:cB (aq 0) bA (aZ (aa (e2 cb (af 1) (eC (.int 1))) (aa (af 0) ai))) (cj 1 [1] [some (hs C m c),some (.d (gp n cs))]) (cs.map PyData.int)=some (kl n cs):=by
   unfold kl;refine cK fun x hx=>?_;have q1:e2 cb (af 1) (eC (.int 1)) ((cj 1 [1] [some (hs C m c),some (.d (gp n cs))]).set 0 (some (.d (.int x))))=rt (.d (.int n)):=(au (x:=.d (gp n cs)) rfl rfl).trans (a5 rfl);exact fR q1 rfl
  rw [bG (bb (xN i2) (by rw [List.length_map]; lia) c1)];rfl
theorem oq (col f n:Int) (h0:-1000<=n) (h1:n<=1000):bq [.d (rn col f n)]=rt (.new (jL col f n)):=by
 unfold bq jn eE;have hd:mS ["meld"] [.d (rn col f n)]=[some (.d (rn col f n))]:=rfl;rw [hd];have t1:(fun δ=>bd (e2 (gx false) (e2 cb (af 0) (eC (.int 0))) (eC (.str "run")) δ) bD) [some (.d (rn col f n))]=rt true:=
  aU ((au ((au (x:=.d (rn col f n)) rfl rfl).trans (a5 rfl)) rfl).trans (pV tf))
 have i3:e2 cb (af 0) (eC (.int 3)) [some (.d (rn col f n))]=rt (.d (.int n)):=(au (x:=.d (rn col f n)) rfl rfl).trans (a5 rfl);have c1:cB (aq 0) bA (aZ (aa (e2 aw (e2 cb (af 1) (eC (.int 2))) (af 0)) (aa (e2 cb (af 1) (eC (.int 1))) ai))) (cj 1 [0] [some (.d (rn col f n))]) (cH 0 n.toNat)=some (jL col f n):=by
  unfold cH jL;refine cK fun k hk=>?_;have q1:e2 cb (af 1) (eC (.int 2)) ((cj 1 [0] [some (.d (rn col f n))]).set 0 (some (.d (.int (0+(k:Int))))))=rt (.d (.int f)):=(au (x:=.d (rn col f n)) rfl rfl).trans (a5 rfl);have q2:e2 cb (af 1) (eC (.int 1)) ((cj 1 [0] [some (.d (rn col f n))]).set 0 (some (.d (.int (0+(k:Int))))))=rt (.d (.int col)):=(au (x:=.d (rn col f n)) rfl rfl).trans (a5 rfl);refine (fR ((au (y:=.d (.int (0+(k:Int)))) q1 rfl).trans (bp _ _)) q2).trans ?_;rw [Int.zero_add]; rfl
 rw [ro ((lL t1).trans (bG (bb (fA (bj i3) h0 h1) (by rw [dt]; lia) c1)))];rfl
theorem ow (n:Int) (cs:List Int) (hl:cs.length<=900):bq [.d (gp n cs)]=rt (.new (kl n cs)):=by
 unfold bq jn eE;have hd:mS ["meld"] [.d (gp n cs)]=[some (.d (gp n cs))]:=rfl;rw [hd];have t1:(fun δ=>bd (e2 (gx false) (e2 cb (af 0) (eC (.int 0))) (eC (.str "run")) δ) bD) [some (.d (gp n cs))]=rt false:=
  aU ((au ((au (x:=.d (gp n cs)) rfl rfl).trans (a5 rfl)) rfl).trans (pV uo))
 rw [cg ((qo t1).trans (show bK _=_ from rfl))];have i2:e2 cb (af 0) (eC (.int 2)) [some (.d (gp n cs))]=rt (.d (tp cs)):=(au (x:=.d (gp n cs)) rfl rfl).trans (a5 rfl);have c1:cB (aq 0) bA (aZ (aa (e2 cb (af 1) (eC (.int 1))) (aa (af 0) ai))) (cj 1 [0] [some (.d (gp n cs))]) (cs.map PyData.int)=some (kl n cs):=by
  unfold kl;refine cK fun x hx=>?_;have q1:e2 cb (af 1) (eC (.int 1)) ((cj 1 [0] [some (.d (gp n cs))]).set 0 (some (.d (.int x))))=rt (.d (.int n)):=(au (x:=.d (gp n cs)) rfl rfl).trans (a5 rfl);exact fR q1 rfl
 rw [bG (bb (xN i2) (by rw [List.length_map]; lia) c1)];rfl
theorem gd {α:Type} {f:α->D} {i N:Nat} {B:DS->M Out} {all:List α} (I:List α->DS->Prop)
  (h:∀pre a δ,a∈all->pre.length<N->I pre δ->∃δ',B (δ.set i (some (.d (f a))))=rt (.nx δ')/\I (pre++[a]) δ') :
  ∀(as pre:List α) (δ:DS),(∀a∈as,a∈all)->pre.length+as.length<=N->I pre δ->∃δ',dU (aq i) B (as.map f) δ=rt (.nx δ')/\I (pre++as) δ'
 |[],pre,δ,_,_,hI=>⟨δ,rfl,by rw [List.append_nil]; exact hI⟩
 |a::as,pre,δ,ha,hn,hI=>by
  simp only [List.length_cons] at hn;obtain ⟨δ1,e1,h1⟩:=h pre a δ (ha a KU) 0x1 hI;obtain ⟨δ2,e2,h2⟩:=gd I h as (pre++[a]) δ1 (fun x hx=>ha x (KS _ hx)) (by simp; lia) h1;refine ⟨δ2,?_,by rw [List.append_assoc] at h2; exact h2⟩;rw [List.map_cons];unfold dU;have hs:aq i (f a) δ=some (δ.set i (some (.d (f a)))):=rfl;rw [hs,a8,aE,e1,aE,pD];exact e2
theorem rO (n:Nat):cH 0 n=(List.range n).map fun (k:Nat)=>PyData.int (k:Int):=by
 unfold cH;refine List.map_congr_left fun k _=>?_;rw [Int.zero_add]
noncomputable def dn (m col f0:Nat):List D:=(List.range (m-2-f0)).map fun (s:Nat)=>rn (col:Int) (1+(f0:Int)) (3+(s:Int))
noncomputable def fx (m col:Nat):List D:=(List.range m).flatMap (dn m col)
noncomputable def de (m c:Nat):List D:=(List.range c).flatMap (fx m)
theorem iK (m col f0:Nat) (h:m<=13):(dn m col f0).length<=13:=by unfold dn; simp; lia
theorem c6 {α:Type} {g:α->List D} {k:Nat} (h:∀a,(g a).length<=k):∀as:List α,(as.flatMap g).length<=k*as.length
 |[]=>by simp
 |a::as=>by
  have:=h a;have:=c6 h as;rw [List.flatMap_cons,List.length_append,List.length_cons,Nat.mul_succ]; lia
noncomputable def rF (C:Addr):DS->M Out:=(bH (aR 4 (e2 aw (e2 gSub (ft C "most" (af 0)) (af 3)) (eC (.int 1)))) (nI 1 (aK 1 [2,3] (k8 (aa (eC (.int 3)) (aa (e2 aw (af 4) (eC (.int 1))) ai))) (aq 0) bA (aZ (aa (eC (.str "run")) (aa (af 1) (aa (af 2) (aa (af 0) ai))))))))
noncomputable def rC (C:Addr):DS->M Out:=(b9 (k8 (aa (eC (.int 1)) (aa (e2 aw (ft C "most" (af 0)) (eC (.int 1))) ai))) (aq 3) (rF C))
section
variable (C:Addr) (m c:Nat)
theorem Fb (hm:m<=13) (c':Int) (col f0:Nat) (hf:f0<m) (base:List D) (hb:base.length<=1000) (x4:Option DV) :
  rF C [some (hs C m c'),some (.own base),some (.d (.int (col:Int))),some (.d (.int (1+(f0:Int)))),x4]=rt (.nx [some (hs C m c'),some (.own (base++dn m col f0)),some (.d (.int (col:Int))),some (.d (.int (1+(f0:Int)))),some (.d (.int ((m:Int)-(1+(f0:Int))+1)))]):=by
 have fl:ft C "most" (af 0) [some (hs C m c'),some (.own base),some (.d (.int (col:Int))),some (.d (.int (1+(f0:Int)))),x4]=rt (.d (.int m)):=i8 C m c';have s1:aR 4 (e2 aw (e2 gSub (ft C "most" (af 0)) (af 3)) (eC (.int 1))) [some (hs C m c'),some (.own base),some (.d (.int (col:Int))),some (.d (.int (1+(f0:Int)))),x4]=rt (.nx [some (hs C m c'),some (.own base),some (.d (.int (col:Int))),some (.d (.int (1+(f0:Int)))),some (.d (.int ((m:Int)-(1+(f0:Int))+1)))]):=
  jk (x:=.d (.int ((m:Int)-(1+(f0:Int))+1))) ((au ((au (y:=.d (.int (1+(f0:Int)))) fl rfl).trans (dq _ _)) rfl).trans (bp _ _)) rfl
 unfold rF;rw [cg s1];have c1:cB (aq 0) bA (aZ (aa (eC (.str "run")) (aa (af 1) (aa (af 2) (aa (af 0) ai))))) (cj 1 [2,3] [some (hs C m c'),some (.own base),some (.d (.int (col:Int))),some (.d (.int (1+(f0:Int)))),some (.d (.int ((m:Int)-(1+(f0:Int))+1)))]) (cH 3 ((m:Int)-(1+(f0:Int))+1+1-3).toNat)=some (dn m col f0):=by
  rw [show ((m:Int)-(1+(f0:Int))+1+1-3).toNat=m-2-f0 by lia];unfold cH dn;refine cK fun s hs=>?_;exact FL rfl rfl rfl rfl
 have e1:aK 1 [2,3] (k8 (aa (eC (.int 3)) (aa (e2 aw (af 4) (eC (.int 1))) ai))) (aq 0) bA (aZ (aa (eC (.str "run")) (aa (af 1) (aa (af 2) (aa (af 0) ai))))) [some (hs C m c'),some (.own base),some (.d (.int (col:Int))),some (.d (.int (1+(f0:Int)))),some (.d (.int ((m:Int)-(1+(f0:Int))+1)))]=rt (.new (dn m col f0)):=
  bb (gN (bW (x:=.d (.int 3)) rfl ((au (x:=.d (.int ((m:Int)-(1+(f0:Int))+1))) (y:=.d (.int 1)) rfl rfl).trans (bp _ _))) 0x1 0x1 0x1 0x1) (by rw [dt]; lia) c1
 rw [wI (xs:=base) rfl e1 (by have:=iK m col f0 hm; lia)];rfl
theorem EI (hm:m<=13) (c':Int) (col:Nat) (base:List D) (hb:base.length<=700) (x3 x4:Option DV) :
  ∃y3 y4,rC C [some (hs C m c'),some (.own base),some (.d (.int (col:Int))),x3,x4]=rt (.nx [some (hs C m c'),some (.own (base++fx m col)),some (.d (.int (col:Int))),y3,y4]):=by
 have fl:e2 aw (ft C "most" (af 0)) (eC (.int 1)) [some (hs C m c'),some (.own base),some (.d (.int (col:Int))),x3,x4]=rt (.d (.int ((m:Int)+1))):=(au (i8 C m c') rfl).trans (bp _ _);unfold rC b9;rw [gN (bW (x:=.d (.int 1)) rfl fl) 0x1 0x1 0x1 0x1,aE,show ((m:Int)+1-1).toNat=m by lia];unfold cH;obtain ⟨δ',e,y3,y4,hδ⟩:=gd (f:=fun (k:Nat)=>PyData.int (1+(k:Int))) (i:=3) (N:=m) (B:=rF C) (all:=List.range m)
  (fun pre δ=>∃y3 y4,δ=[some (hs C m c'),some (.own (base++pre.flatMap (dn m col))),some (.d (.int (col:Int))),y3,y4])
  (fun pre a δ ha hp ⟨y3,y4,hδ⟩=>by
   subst hδ;have hl:=c6 (fun a=>iK m col a hm) pre;refine ⟨_,Fb C m hm c' col a (Lh.mp ha) (base++pre.flatMap (dn m col)) (by rw [List.length_append]; lia) y4,some (.d (.int (1+(a:Int)))),some (.d (.int ((m:Int)-(1+(a:Int))+1))),?_⟩;rw [List.flatMap_append,<-List.append_assoc,show [a].flatMap (dn m col)=dn m col a by simp])
  (List.range m) [] [some (hs C m c'),some (.own base),some (.d (.int (col:Int))),x3,x4] (fun _ h=>h) 0x4 ⟨x3,x4,0x4⟩
 refine ⟨y3,y4,?_⟩;rw [e,hδ];rfl
theorem nr (col:Nat) (hm:m<=13):(fx m col).length<=169:=by
 have:=c6 (fun a=>iK m col a hm) (List.range m);rw [List.length_range] at this;unfold fx;lia
theorem xt (hm:m<=13) (hc:c<=4):fN C [hs C m c]=rt (.new (de m c)):=by
 unfold fN pI eE;have hd:mS ["house", "found", "colour", "first", "room"] [hs C m c]=[some (hs C m c),none,none,none,none]:=rfl;rw [hd];have s1:aR 1 (bV ai) [some (hs C m c),none,none,none,none]=rt (.nx [some (hs C m c),some (.own []),none,none,none]):=rfl;rw [cg s1];obtain ⟨δ',e,y2,y3,y4,hδ⟩:=gd (f:=fun (k:Nat)=>PyData.int (k:Int)) (i:=2) (N:=c) (B:=rC C) (all:=List.range c)
  (fun pre δ=>∃y2 y3 y4,δ=[some (hs C m c),some (.own (pre.flatMap (fx m))),y2,y3,y4])
  (fun pre a δ ha hp ⟨y2,y3,y4,hδ⟩=>by
   subst hδ;have hl:=c6 (fun a=>nr m a hm) pre;obtain ⟨z3,z4,e⟩:=EI C m hm c a (pre.flatMap (fx m)) 0x1 y3 y4;refine ⟨_,e,some (.d (.int (a:Int))),z3,z4,?_⟩;rw [List.flatMap_append,show [a].flatMap (fx m)=fx m a by simp])
  (List.range c) [] [some (hs C m c),some (.own []),none,none,none] (fun _ h=>h) 0x4 ⟨none,none,none,0x4⟩
 have s2:b9 (lx (aa (ft C "colours" (af 0)) ai)) (aq 2) (rC C) [some (hs C m c),some (.own []),none,none,none]=rt (.nx [some (hs C m c),some (.own (de m c)),y2,y3,y4]):=by
  unfold b9;rw [fA (bj (gm C m c)) 0x1 0x1,aE,show (c:Int).toNat=c by lia,rO,e,hδ];rfl
 rw [show (b9 (k8 (aa (eC (.int 1)) (aa (e2 aw (ft C "most" (af 0)) (eC (.int 1))) ai))) (aq 3) (bH (aR 4 (e2 aw (e2 gSub (ft C "most" (af 0)) (af 3)) (eC (.int 1)))) (nI 1 (aK 1 [2,3] (k8 (aa (eC (.int 3)) (aa (e2 aw (af 4) (eC (.int 1))) ai))) (aq 0) bA (aZ (aa (eC (.str "run")) (aa (af 1) (aa (af 2) (aa (af 0) ai)))))))))=rC C from rfl];rw [cg s2,bG (x:=.own (de m c)) rfl];rfl
end
noncomputable def kF (c:Nat):List (List Int):=match c with
 |3=>[[0,1,2]]
 |4=>[[0,1,2],[0,1,2,3],[0,1,3],[0,2,3],[1,2,3]]
 |_=>[]
noncomputable def bz (ch:List (List Int)) (n0:Nat):List D:=ch.map fun k=>gp (1+(n0:Int)) k
noncomputable def cJ (ch:List (List Int)) (m:Nat):List D:=(List.range m).flatMap (bz ch)
noncomputable def kC:DS->M Out:=(fun δ=>(aR 1 (e2 aw (af 1) (aK 1 [2] (iw (af 1)) (aq 0) bA (e2 aw (af 0) (aZ (aa (af 1) ai)))))) (frz 1 δ))
noncomputable def kE:DS->M Out:=(fun δ=>(bt (aN lD (aa (aK 1 [] (iw (af 1)) (aq 0) (fun δ=>bd (e2 HH (aN cy (aa (af 0) ai)) (eC (.int 3)) δ) bD) (af 0)) ai))) (frz 1 δ))
section
variable (C:Addr) (m:Int)
theorem zp (x:DV) (c:Nat) (h1:1<=c) (h4:c<=4):bH (fun δ=>dU (aq 2) kC (cH 0 c) δ) kE [some x,some (.own [.tuple []]),none]=rt (.rt (.new ((kF c).map tp))):=by
 match c,h1,h4 with
 |1,_,_=>kernel_rfl
 |2,_,_=>kernel_rfl
 |3,_,_=>kernel_rfl
 |4,_,_=>kernel_rfl
 |n+5,_,h=>lia
theorem Ap (c:Nat) (h1:1<=c) (h4:c<=4):cp C [hs C m c]=rt (.new ((kF c).map tp)):=by
 unfold cp i6 eE;have hd:mS ["house", "choices", "colour"] [hs C m c]=[some (hs C m c),none,none]:=rfl;rw [hd];have s1:aR 1 (bV (aa (aZ ai) ai)) [some (hs C m c),none,none]=rt (.nx [some (hs C m c),some (.own [.tuple []]),none]):=rfl;rw [cg s1];have e:=zp (hs C m c) c h1 h4;unfold bH at e ⊢;unfold b9;rw [fA (bj (gm C m c)) 0x1 0x1,aE,show (c:Int).toNat=c by lia];exact (congrArg (fun z=>bd z zY) e).trans rfl
noncomputable def gB:DS->M Out:=(fun δ=>(nI 2 (aK 1 [3] (iw (af 1)) (aq 0) bA (aZ (aa (eC (.str "group")) (aa (af 1) (aa (af 0) ai)))))) (frz 1 δ))
theorem ij {ch:List (List Int)} (MZ:ch.length<=5) (n0:Nat):(bz ch n0).length<=5:=by unfold bz; simp; exact MZ
theorem oG (c:Nat):(kF c).length<=5:=by
 match c with
 |0|1|2|3|4=>decide
 |n+5=>exact Lo _
theorem Ey (x:DV) (ch:List (List Int)) (MZ:ch.length<=5) (n0:Nat) (base:List D) (hb:base.length<=1000) (x1:DV) (h1:x1=.own (ch.map tp)\/x1=.d (.list (ch.map tp))) :
  gB [some x,some x1,some (.own base),some (.d (.int (1+(n0:Int))))]=rt (.nx [some x,some (.d (.list (ch.map tp))),some (.own (base++bz ch n0)),some (.d (.int (1+(n0:Int))))]):=by
 have hf:frz 1 [some x,some x1,some (.own base),some (.d (.int (1+(n0:Int))))]=[some x,some (.d (.list (ch.map tp))),some (.own base),some (.d (.int (1+(n0:Int))))]:=by
  rcases h1 with h|h <;> (subst h; rfl)
 unfold gB;rw [hf];have c1:cB (aq 0) bA (aZ (aa (eC (.str "group")) (aa (af 1) (aa (af 0) ai)))) (cj 1 [3] [some x,some (.d (.list (ch.map tp))),some (.own base),some (.d (.int (1+(n0:Int))))]) (ch.map tp)=some (bz ch n0):=by
  unfold bz;refine cK fun k hk=>?_;exact Fx rfl rfl rfl
 have e1:aK 1 [3] (iw (af 1)) (aq 0) bA (aZ (aa (eC (.str "group")) (aa (af 1) (aa (af 0) ai)))) [some x,some (.d (.list (ch.map tp))),some (.own base),some (.d (.int (1+(n0:Int))))]=rt (.new (bz ch n0)):=
  bb (f9 rfl) (by rw [List.length_map]; lia) c1
 rw [wI (xs:=base) rfl e1 (by have:=ij MZ n0; lia)];rfl
theorem ur (m c:Nat) (hm:m<=13) (h1:1<=c) (h4:c<=4):d0 C [hs C m c]=rt (.new (cJ (kF c) m)):=by
 unfold d0 lY eE;have hd:mS ["house", "choices", "found", "number"] [hs C m c]=[some (hs C m c),none,none,none]:=rfl;rw [hd];have s1:aR 1 (aN (ay 1 (cp C)) (aa (af 0) ai)) [some (hs C m c),none,none,none]=rt (.nx [some (hs C m c),some (.own ((kF c).map tp)),none,none]):=
  jk (x:=.new ((kF c).map tp)) (aY (n:=1) (bj (x:=hs C m c) rfl) rfl rfl (Ap C m c h1 h4)) rfl
 have s2:aR 2 (bV ai) [some (hs C m c),some (.own ((kF c).map tp)),none,none]=rt (.nx [some (hs C m c),some (.own ((kF c).map tp)),some (.own []),none]):=rfl;rw [cg s1,cg s2];obtain ⟨δ',e,y1,y3,hδ,_⟩:=gd (f:=fun (k:Nat)=>PyData.int (1+(k:Int))) (i:=3) (N:=m) (B:=gB) (all:=List.range m)
  (fun pre δ=>∃y1 y3,δ=[some (hs C m c),some y1,some (.own (pre.flatMap (bz (kF c)))),y3]/\(y1=.own ((kF c).map tp)\/y1=.d (.list ((kF c).map tp))))
  (fun pre a δ ha hp ⟨y1,y3,hδ,hy⟩=>by
   subst hδ;have hl:=c6 (fun a=>ij (oG c) a) pre;refine ⟨_,Ey (hs C m c) (kF c) (oG c) a (pre.flatMap (bz (kF c))) 0x1 y1 hy,_,some (.d (.int (1+(a:Int)))),?_,.inr rfl⟩;rw [List.flatMap_append,show [a].flatMap (bz (kF c))=bz (kF c) a by simp])
  (List.range m) [] [some (hs C m c),some (.own ((kF c).map tp)),some (.own []),none] (fun _ h=>h) 0x4 ⟨.own ((kF c).map tp),none,0x4,.inl rfl⟩
 have fl:e2 aw (ft C "most" (af 0)) (eC (.int 1)) [some (hs C m c),some (.own ((kF c).map tp)),some (.own []),none]=rt (.d (.int ((m:Int)+1))):=(au (i8 C m c) rfl).trans (bp _ _);have s3:b9 (k8 (aa (eC (.int 1)) (aa (e2 aw (ft C "most" (af 0)) (eC (.int 1))) ai))) (aq 3) gB [some (hs C m c),some (.own ((kF c).map tp)),some (.own []),none]=rt (.nx [some (hs C m c),some y1,some (.own (cJ (kF c) m)),y3]):=by
  unfold b9;rw [gN (bW (x:=.d (.int 1)) rfl fl) 0x1 0x1 0x1 0x1,aE,show ((m:Int)+1-1).toNat=m by lia];unfold cH;rw [e,hδ];rfl
 rw [show (fun δ=>(nI 2 (aK 1 [3] (iw (af 1)) (aq 0) bA (aZ (aa (eC (.str "group")) (aa (af 1) (aa (af 0) ai)))))) (frz 1 δ))=gB from rfl];rw [cg s3,bG (x:=.own (cJ (kF c) m)) rfl];rfl
noncomputable def cT (m c:Nat):List D:=cJ (kF c) m++de m c
theorem jN {ch:List (List Int)} (MZ:ch.length<=5) (m:Nat):(cJ ch m).length<=5*m:=by
 have:=c6 (fun a=>ij MZ a) (List.range m)
 rwa [List.length_range] at this
theorem nJ (m c:Nat) (hm:m<=13):(de m c).length<=169*c:=by
 have:=c6 (fun a=>nr m a hm) (List.range c)
 rwa [List.length_range] at this
theorem Dy (m c:Nat) (hm:m<=13) (h1:1<=c) (h4:c<=4):mG C [hs C m c]=rt (.new (cT m c)):=by
 unfold mG yG eE;have hd:mS ["house"] [hs C m c]=[some (hs C m c)]:=rfl;rw [hd];have e1:aN (ay 1 (d0 C)) (aa (af 0) ai) [some (hs C m c)]=rt (.new (cJ (kF c) m)):=aY (n:=1) (bj (x:=hs C m c) rfl) rfl rfl (ur C m c hm h1 h4);have e2':aN (ay 1 (fN C)) (aa (af 0) ai) [some (hs C m c)]=rt (.new (de m c)):=aY (n:=1) (bj (x:=hs C m c) rfl) rfl rfl (xt C m c hm h4);have l1:=jN (oG c) m;have l2:=nJ m c hm;rw [bG ((au e1 e2').trans (hW rfl rfl rfl 0x1))];rfl
end
variable {k:List Int}
theorem Cm {k':List Int} (h:tp k=tp k'):k=k':=by
 unfold tp at h;have h':=PyData.tuple.inj h;clear h
 induction k generalizing k' with
 |nil=>cases k' with
  |nil=>rfl
  |cons _ _=>cases h'
 |cons x r ih=>cases k' with
  |nil=>cases h'
  |cons y r'=>
   rw [List.map_cons,List.map_cons] at h';obtain ⟨h1,h2⟩:=List.cons.inj h';rw [PyData.int.inj h1,ih h2]
theorem BA (k k':List Int):PyData.eqv (tp k) (tp k')=decide (k=k'):=by
 unfold tp PyData.eqv;exact qe k k'
theorem FH (a b:Int):PyData.eqv (.int a) (.int b)=decide (a=b):=by
 unfold PyData.eqv;by_cases h:a=b
 ·subst h; simp
 ·simp [h]
theorem wq (c f n c' f' n':Int):PyData.eqv (rn c f n) (rn c' f' n')=(decide (c=c')&&(decide (f=f')&&decide (n=n'))):=by
 unfold rn;simp only [PyData.eqv,PyData.eqvAll];have:(("run" : Str)==("run" : Str))=true:=by decide +kernel
 rw [this];simp [FH,PyData.eqv];rfl
theorem xP (n n':Int) (k k':List Int):PyData.eqv (gp n k) (gp n' k')=(decide (n=n')&&decide (k=k')):=by
 unfold gp;simp only [PyData.eqv,PyData.eqvAll];have:(("group" : Str)==("group" : Str))=true:=by decide +kernel
 rw [this,BA];simp;rfl
theorem rV (c f n n':Int) (k':List Int):PyData.eqv (rn c f n) (gp n' k')=false:=by
 unfold gp rn;simp only [PyData.eqv,PyData.eqvAll];have:(("run" : Str)==("group" : Str))=false:=by decide +kernel
 rw [this]; rfl
theorem rD (c f n n':Int) (k':List Int):PyData.eqv (gp n' k') (rn c f n)=false:=by
 unfold gp rn;simp only [PyData.eqv,PyData.eqvAll];have:(("group" : Str)==("run" : Str))=false:=by decide +kernel
 rw [this]; rfl
theorem JQ (a b:Int) (xs ys:List D):cL true (.int a::xs) (.int b::ys)=if a=b then cL true xs ys else some (decide (a<b)):=by
 rw [cL,FH];by_cases h:a=b
 ·rw [if_pos h,if_pos (Ls h)]
 ·rw [if_neg h,if_neg (by simpa using h)];rfl
theorem yI (xs ys:List D) (t:Str) (h:PyData.eqv (.str t) (.str t)=true):cL true (.str t::xs) (.str t::ys)=cL true xs ys:=by
 rw [cL,if_pos h]
theorem xZ (c f n c' f' n':Int):cD true (rn c f n) (rn c' f' n')=some (ll [c,f,n] [c',f',n']):=by
 unfold rn cD;rw [yI _ _ _ tf];exact oA [c,f,n] [c',f',n']
theorem Bw (n n':Int) (k k':List Int):cD true (gp n k) (gp n' k')=some (ll (n::k) (n'::k')):=by
 unfold gp cD;rw [yI _ _ _ AZ,JQ,bI];by_cases h:n=n'
 ·rw [if_pos h,if_pos h,cL,BA];by_cases hk:k=k'
  ·subst hk;rw [if_pos 0x4,eH]; rfl
  ·rw [if_neg (by simpa using hk)];exact oA k k'
 ·rw [if_neg h,if_neg h]
theorem Ig (c f n n':Int) (k':List Int):cD true (gp n' k') (rn c f n)=some true:=by
 unfold gp rn cD;rw [cL,if_neg (by rw [uo]; exact Bool.false_ne_true)];show some (cS true "group" "run")=some true;congr 1
theorem FE (c f n n':Int) (k':List Int):cD true (rn c f n) (gp n' k')=some false:=by
 unfold gp rn cD;rw [cL,if_neg (by rw [HF]; exact Bool.false_ne_true)];show some (cS true "run" "group")=some false;congr 1
theorem sW:∀k:List Int,Ah (k.map PyData.int)=true
 |[]=>rfl
 |x::r=>by rw [List.map_cons,Ah,sW r]; rfl
theorem Ja (c f n:Int):iD (rn c f n)=true:=rfl
theorem II (n:Int) (k:List Int):iD (gp n k)=true:=by
 unfold gp tp;simp [iD,Ah,sW]
theorem tT:∀k:List Int,PyData.depthAll (k.map PyData.int)<=1
 |[]=>Lo _
 |x::r=>by
  have:=tT r;rw [List.map_cons,PyData.depthAll];show max _ _<=1;have:(PyData.int x).depth<=1:=by unfold PyData.depth; lia
  lia
theorem IC (c f n:Int):(rn c f n).depth<=50:=by
 unfold rn;simp [PyData.depth,PyData.depthAll]
theorem Je (n:Int) (k:List Int):(gp n k).depth<=50:=by
 have:=tT k;unfold gp tp;simp [PyData.depth,PyData.depthAll];lia
def Ay (x:D):Prop:=(∃c f n,x=rn c f n)\/(∃n k,x=gp n k)
variable {m c:Nat} {x:D}
theorem km (h:x∈de m c):∃col f0 s:Nat,col<c/\f0<m/\s<m-2-f0/\x=rn (col:Int) (1+(f0:Int)) (3+(s:Int)):=by
 unfold de fx dn at h;simp only [List.mem_flatMap,List.mem_map,List.mem_range] at h;obtain ⟨col,h1,f0,h2,s,h3,rfl⟩:=h;exact ⟨col,f0,s,h1,h2,h3,rfl⟩
theorem BO {col f0 s:Nat} (h1:col<c) (h2:f0<m) (h3:s<m-2-f0):rn (col:Int) (1+(f0:Int)) (3+(s:Int))∈de m c:=by
 unfold de fx dn;simp only [List.mem_flatMap,List.mem_map,List.mem_range];exact ⟨col,h1,f0,h2,s,h3,rfl⟩
theorem g8 {ch:List (List Int)} (h:x∈cJ ch m):∃n0:Nat,∃k∈ch,n0<m/\x=gp (1+(n0:Int)) k:=by
 unfold cJ bz at h;simp only [List.mem_flatMap,List.mem_map,List.mem_range] at h;obtain ⟨n0,h1,k,hk,rfl⟩:=h;exact ⟨n0,k,hk,h1,rfl⟩
theorem xo {ch:List (List Int)} {n0:Nat} (h1:n0<m) (hk:k∈ch):gp (1+(n0:Int)) k∈cJ ch m:=by
 unfold cJ bz;simp only [List.mem_flatMap,List.mem_map,List.mem_range];exact ⟨n0,h1,k,hk,rfl⟩
theorem ku (h:x∈cT m c):Ay x:=by
 rcases Ld.mp h with h|h
 ·obtain ⟨n0,k,_,_,e⟩:=g8 h; exact .inr ⟨_,_,e⟩
 ·obtain ⟨col,f0,s,_,_,_,e⟩:=km h; exact .inl ⟨_,_,_,e⟩
variable {y:D}
theorem Ay.cmp (hx:Ay x) (hy:Ay y):(cD true x y).isSome=true:=by
 rcases hx with ⟨c,f,n,rfl⟩|⟨n,k,rfl⟩ <;> rcases hy with ⟨c',f',n',rfl⟩|⟨n',k',rfl⟩
 ·rw [xZ]; rfl
 ·rw [FE]; rfl
 ·rw [Ig]; rfl
 ·rw [Bw]; rfl
theorem Ay.ok (hx:Ay x):iD x=true:=by
 rcases hx with ⟨c,f,n,rfl⟩|⟨n,k,rfl⟩
 ·exact Ja ..
 ·exact II ..
theorem xG (h:∀x∈xs,Ay x) (hl:xs.length<=10000):Cmp2 xs:=
 ⟨fun x hx=>(h x hx).ok,fun x hx y hy=>(h x hx).cmp (h y hy),.inr fun x hx=>by
  rcases h x hx with ⟨c,f,n,rfl⟩|⟨n,k,rfl⟩
  ·exact ⟨_,_,rfl⟩
  ·exact ⟨_,_,rfl⟩,fun x hx=>by
  rcases h x hx with ⟨c,f,n,rfl⟩|⟨n,k,rfl⟩
  ·exact IC ..
  ·exact Je ..,hl⟩
theorem kJ (hx:Ay x) (hy:Ay y) (h:cD true y x=some false):ll (lW y) (lW x)=false:=wJ hy.ok hx.ok h
theorem F5 (c:Nat):(kF c).Pairwise fun a b=>ll b a=false:=by
 match c with
 |0|1|2|3|4=>decide
 |n+5=>exact List.Pairwise.nil
theorem zT (m c:Nat):vf (cT m c):=by
 unfold vf cT;refine Lm.mpr ⟨?_,?_,fun x hx y hy=>?_⟩
 ·unfold cJ;refine List.pairwise_flatMap.mpr ⟨fun n0 _=>?_,?_⟩
  ·unfold bz;refine List.pairwise_map.mpr ((F5 c).imp fun {a b} Nj=>?_);refine kJ (.inr ⟨_,_,rfl⟩) (.inr ⟨_,_,rfl⟩) ?_;rw [Bw,bI,if_pos rfl,Nj]
  ·refine List.pairwise_lt_range.imp fun {a b} Nj x hx y hy=>?_;unfold bz at hx hy;obtain ⟨k,_,rfl⟩:=Lf.mp hx;obtain ⟨k',_,rfl⟩:=Lf.mp hy;refine kJ (.inr ⟨_,_,rfl⟩) (.inr ⟨_,_,rfl⟩) ?_;rw [Bw,bI,if_neg 0x1,Lr 0x1]
 ·unfold de;refine List.pairwise_flatMap.mpr ⟨fun col _=>?_,?_⟩
  ·unfold fx;refine List.pairwise_flatMap.mpr ⟨fun f0 _=>?_,?_⟩
   ·unfold dn;refine List.pairwise_map.mpr (List.pairwise_lt_range.imp fun {a b} Nj=>?_);refine kJ (.inl ⟨_,_,_,rfl⟩) (.inl ⟨_,_,_,rfl⟩) ?_;rw [xZ,bI,if_pos rfl,bI,if_pos rfl,bI,if_neg 0x1,Lr 0x1]
   ·refine List.pairwise_lt_range.imp fun {a b} Nj x hx y hy=>?_;unfold dn at hx hy;obtain ⟨k,_,rfl⟩:=Lf.mp hx;obtain ⟨k',_,rfl⟩:=Lf.mp hy;refine kJ (.inl ⟨_,_,_,rfl⟩) (.inl ⟨_,_,_,rfl⟩) ?_;rw [xZ,bI,if_pos rfl,bI,if_neg 0x1,Lr 0x1]
  ·refine List.pairwise_lt_range.imp fun {a b} Nj x hx y hy=>?_;unfold fx dn at hx hy;simp only [List.mem_flatMap,List.mem_map,List.mem_range] at hx hy;obtain ⟨_,_,_,_,rfl⟩:=hx;obtain ⟨_,_,_,_,rfl⟩:=hy;refine kJ (.inl ⟨_,_,_,rfl⟩) (.inl ⟨_,_,_,rfl⟩) ?_;rw [xZ,bI,if_neg 0x1,Lr 0x1]
 ·obtain ⟨_,_,_,_,rfl⟩:=g8 hx;obtain ⟨_,_,_,_,_,_,rfl⟩:=km hy;exact kJ (.inr ⟨_,_,rfl⟩) (.inl ⟨_,_,_,rfl⟩) (FE ..)
theorem wN {raw:List D} (h:raw.Perm (cT m c)):uj raw=cT m c:=
 qE ((dY raw).trans h) (mh raw) (zT m c) (fun x hx=>(ku (h.mem_iff.mp ((dY raw).mem_iff.mp hx))).ok)
  fun x hx y hy=>(ku (h.mem_iff.mp ((dY raw).mem_iff.mp hx))).cmp (ku (h.mem_iff.mp ((dY raw).mem_iff.mp hy)))
theorem sN (m c:Nat) (col f n:Int):((cT m c).any fun z=>PyData.eqv z (rn col f n))=mj m c col f n:=by
 apply Bool.eq_iff_iff.mpr;rw [List.any_eq_true];constructor
 ·rintro ⟨x,hx,he⟩;rcases Ld.mp hx with h|h
  ·obtain ⟨n0,k,_,_,rfl⟩:=g8 h;rw [rD] at he; cases he
  ·obtain ⟨col',f0,s,h1,h2,h3,rfl⟩:=km h;rw [wq] at he;simp only [Bool.and_eq_true,decide_eq_true_eq] at he;obtain ⟨rfl,rfl,rfl⟩:=he;unfold mj bh;simp only [Bool.and_eq_true,decide_eq_true_eq];lia
 ·intro h;unfold mj bh at h;simp only [Bool.and_eq_true,decide_eq_true_eq] at h;refine ⟨rn ((col.toNat:Nat):Int) (1+(((f-1).toNat:Nat):Int)) (3+(((n-3).toNat:Nat):Int)),KY _ (BO 0x1 0x1 0x1),?_⟩;rw [wq];simp only [Bool.and_eq_true,decide_eq_true_eq];lia
theorem sO (m c:Nat) (n:Int) (k:List Int):((cT m c).any fun z=>PyData.eqv z (gp n k))=(decide (1<=n)&&decide (n<=(m:Int))&&decide (k∈kF c)):=by
 apply Bool.eq_iff_iff.mpr;rw [List.any_eq_true];constructor
 ·rintro ⟨x,hx,he⟩;rcases Ld.mp hx with h|h
  ·obtain ⟨n0,k',hk,h1,rfl⟩:=g8 h;rw [xP] at he;simp only [Bool.and_eq_true,decide_eq_true_eq] at he ⊢;obtain ⟨rfl,rfl⟩:=he;exact ⟨0x1,hk⟩
  ·obtain ⟨col',f0,s,h1,h2,h3,rfl⟩:=km h;rw [rV] at he; cases he
 ·intro h;simp only [Bool.and_eq_true,decide_eq_true_eq] at h;refine ⟨gp (1+(((n-1).toNat:Nat):Int)) k,KZ _ (xo 0x1 h.2),?_⟩;rw [xP];simp only [Bool.and_eq_true,decide_eq_true_eq];exact ⟨0x1,trivial⟩
noncomputable def yp (c:Nat) (k:List Int):Bool:=decide (3<=k.length)&&k.all (fun x=>decide (0<=x)&&decide (x<(c:Int)))&&asc k
theorem E5 (m c:Nat) (n:Int) (k:List Int) (h:yp c k=decide (k∈kF c)):mL m c n k=(decide (1<=n)&&decide (n<=(m:Int))&&decide (k∈kF c)):=by
 rw [<-h];unfold mL yp bh
 match k with
 |[]=>simp
 |x::r=>
  by_cases hn:(decide (1<=n)&&decide (n<=(m:Int)))=true
  ·simp only [hn,Bool.true_and]
  ·have N3:(decide (1<=n)&&decide (n<=(m:Int)))=false:=by simpa using hn
   simp only [N3,Bool.false_and,List.all_cons,Bool.and_false]
noncomputable def lF:DS->M Out:=(aR 2 (e2 aw (af 2) (aK 1 [3,4] (k8 (aa (e2 aw (af 4) (eC (.int 2))) (aa (e2 aw (af 0) (eC (.int 1))) ai))) (aq 0) bA (aZ (aa (eC (.str "run")) (aa (af 1) (aa (af 2) (aa (e2 aw (e2 gSub (af 0) (af 2)) (eC (.int 1))) ai))))))))
noncomputable def lC:DS->M Out:=(b9 (k8 (aa (eC (.int 1)) (aa (e2 aw (af 0) (eC (.int 1))) ai))) (aq 4) lF)
noncomputable def lK:DS->M Out:=(fun δ=>(aR 5 (e2 aw (af 5) (aK 1 [3] (iw (af 5)) (aq 0) bA (e2 aw (af 0) (bV (aa (af 1) ai)))))) (frz 5 δ))
noncomputable def lG:DS->M Out:=(fun δ=>(aR 2 (e2 aw (af 2) (aK 1 [6] (iw (af 5)) (aq 0) (fun δ=>bd (e2 mY (aN cy (aa (af 0) ai)) (eC (.int 2)) δ) bD) (aZ (aa (eC (.str "group")) (aa (af 1) (aa (aN qD (aa (af 0) ai)) ai))))))) (frz 5 δ))
noncomputable def gg:Nat->List (List Int)
 |0=>[[]]
 |c+1=>gg c++(gg c).map fun k=>k++[(c:Int)]
noncomputable def ls (k:List Int):D:=.list (k.map PyData.int)
noncomputable def De (c:Nat):List (List Int):=(gg c).filter fun k=>decide (2<k.length)
section
variable (m c:Nat)
theorem DY (hm:m<=13) (x1:Option DV) (col f0:Nat) (hf:f0<m) (base:List D) (hb:base.length<=1000) (x5 x6:Option DV) :
  lF [some (.d (.int (m:Int))),x1,some (.own base),some (.d (.int (col:Int))),some (.d (.int (1+(f0:Int)))),x5,x6]=rt (.nx [some (.d (.int (m:Int))),x1,some (.own (base++dn m col f0)),some (.d (.int (col:Int))),some (.d (.int (1+(f0:Int)))),x5,x6]):=by
 have c1:cB (aq 0) bA (aZ (aa (eC (.str "run")) (aa (af 1) (aa (af 2) (aa (e2 aw (e2 gSub (af 0) (af 2)) (eC (.int 1))) ai))))) (cj 1 [3,4] [some (.d (.int (m:Int))),x1,some (.own base),some (.d (.int (col:Int))),some (.d (.int (1+(f0:Int)))),x5,x6]) (cH (1+(f0:Int)+2) ((m:Int)+1-(1+(f0:Int)+2)).toNat)=some (dn m col f0):=by
  rw [show ((m:Int)+1-(1+(f0:Int)+2)).toNat=m-2-f0 by lia];unfold cH dn;refine cK fun s hs=>?_;have q:e2 aw (e2 gSub (af 0) (af 2)) (eC (.int 1)) ((cj 1 [3,4] [some (.d (.int (m:Int))),x1,some (.own base),some (.d (.int (col:Int))),some (.d (.int (1+(f0:Int)))),x5,x6]).set 0 (some (.d (.int (1+(f0:Int)+2+(s:Int))))))=rt (.d (.int (3+(s:Int)))):=by
   refine (au ((au (x:=.d (.int (1+(f0:Int)+2+(s:Int)))) (y:=.d (.int (1+(f0:Int)))) rfl rfl).trans (dq _ _)) rfl).trans ((bp _ _).trans ?_);rw [show (1+(f0:Int)+2+(s:Int)-(1+(f0:Int))+1)=3+(s:Int) by lia]
  exact FL rfl rfl rfl q
 have e1:aK 1 [3,4] (k8 (aa (e2 aw (af 4) (eC (.int 2))) (aa (e2 aw (af 0) (eC (.int 1))) ai))) (aq 0) bA (aZ (aa (eC (.str "run")) (aa (af 1) (aa (af 2) (aa (e2 aw (e2 gSub (af 0) (af 2)) (eC (.int 1))) ai))))) [some (.d (.int (m:Int))),x1,some (.own base),some (.d (.int (col:Int))),some (.d (.int (1+(f0:Int)))),x5,x6]=rt (.new (dn m col f0)):=
  bb (gN (bW ((au (x:=.d (.int (1+(f0:Int)))) (y:=.d (.int 2)) rfl rfl).trans (bp _ _)) ((au (x:=.d (.int (m:Int))) (y:=.d (.int 1)) rfl rfl).trans (bp _ _))) 0x1 0x1 0x1 0x1) (by rw [dt]; lia) c1
 unfold lF;rw [jk ((au (x:=.own base) rfl e1).trans (hW rfl rfl rfl (by have:=iK m col f0 hm; lia))) rfl];rfl
theorem ED (hm:m<=13) (x1:Option DV) (col:Nat) (base:List D) (hb:base.length<=700) (x4 x5 x6:Option DV) :
  ∃y4,lC [some (.d (.int (m:Int))),x1,some (.own base),some (.d (.int (col:Int))),x4,x5,x6]=rt (.nx [some (.d (.int (m:Int))),x1,some (.own (base++fx m col)),some (.d (.int (col:Int))),y4,x5,x6]):=by
 unfold lC b9;rw [gN (bW (x:=.d (.int 1)) rfl ((au (x:=.d (.int (m:Int))) (y:=.d (.int 1)) rfl rfl).trans (bp _ _))) 0x1 0x1 0x1 0x1,aE,show ((m:Int)+1-1).toNat=m by lia];unfold cH;obtain ⟨δ',e,y4,hδ⟩:=gd (f:=fun (k:Nat)=>PyData.int (1+(k:Int))) (i:=4) (N:=m) (B:=lF) (all:=List.range m)
  (fun pre δ=>∃y4,δ=[some (.d (.int (m:Int))),x1,some (.own (base++pre.flatMap (dn m col))),some (.d (.int (col:Int))),y4,x5,x6])
  (fun pre a δ ha hp ⟨y4,hδ⟩=>by
   subst hδ;have hl:=c6 (fun a=>iK m col a hm) pre;refine ⟨_,DY m hm x1 col a (Lh.mp ha) (base++pre.flatMap (dn m col)) (by rw [List.length_append]; lia) x5 x6,some (.d (.int (1+(a:Int)))),?_⟩;rw [List.flatMap_append,<-List.append_assoc,show [a].flatMap (dn m col)=dn m col a by simp])
  (List.range m) [] [some (.d (.int (m:Int))),x1,some (.own base),some (.d (.int (col:Int))),x4,x5,x6] (fun _ h=>h) 0x4 ⟨x4,0x4⟩
 refine ⟨y4,?_⟩;rw [e,hδ];rfl
theorem xh (x0 x1 x2 x3 x4 x6:Option DV) (h1:1<=c) (h4:c<=4):∃y3,dU (aq 3) lK (cH 0 c) [x0,x1,x2,x3,x4,some (.own [.list []]),x6]=rt (.nx [x0,x1,x2,y3,x4,some (.own ((gg c).map ls)),x6]):=by
 match c,h1,h4 with
 |1,_,_=>exact ⟨some (.d (.int 0)),by kernel_rfl⟩
 |2,_,_=>exact ⟨some (.d (.int 1)),by kernel_rfl⟩
 |3,_,_=>exact ⟨some (.d (.int 2)),by kernel_rfl⟩
 |4,_,_=>exact ⟨some (.d (.int 3)),by kernel_rfl⟩
 |n+5,_,h=>lia
theorem DC (k:List Int):cy [.d (ls k)]=rt (.d (.int (k.length:Int))):=by
 show rt (DV.d (.int ((k.map PyData.int).length:Int)))=_;rw [List.length_map]
theorem DN (ks:List (List Int)) (hk:ks.length<=100) (x0 x1 x3 x4:Option DV) (n0:Nat) (base:List D) (hb:base.length<=1000) (x5:DV) (h5:x5=.own (ks.map ls)\/x5=.d (.list (ks.map ls))) :
  lG [x0,x1,some (.own base),x3,x4,some x5,some (.d (.int (1+(n0:Int))))]=rt (.nx [x0,x1,some (.own (base++bz (ks.filter fun k=>decide (2<k.length)) n0)),x3,x4,some (.d (.list (ks.map ls))),some (.d (.int (1+(n0:Int))))]):=by
 have hf:frz 5 [x0,x1,some (.own base),x3,x4,some x5,some (.d (.int (1+(n0:Int))))]=[x0,x1,some (.own base),x3,x4,some (.d (.list (ks.map ls))),some (.d (.int (1+(n0:Int))))]:=by
  rcases h5 with h|h <;> (subst h; rfl)
 unfold lG;rw [hf];have c1:cB (aq 0) (fun δ=>bd (e2 mY (aN cy (aa (af 0) ai)) (eC (.int 2)) δ) bD) (aZ (aa (eC (.str "group")) (aa (af 1) (aa (aN qD (aa (af 0) ai)) ai)))) (cj 1 [6] [x0,x1,some (.own base),x3,x4,some (.d (.list (ks.map ls))),some (.d (.int (1+(n0:Int))))]) (ks.map ls)=some (bz (ks.filter fun k=>decide (2<k.length)) n0):=by
  unfold bz;refine dh fun k hk=>⟨?_,?_⟩
  ·refine (aU ((au (y:=.d (.int 2)) ((cm (bj (x:=.d (ls k)) rfl)).trans (DC k)) rfl).trans (gq _ _))).trans ?_;rw [show decide ((2:Int)<(k.length:Int))=decide (2<k.length) from decide_eq_decide.mpr 0x1]
  ·exact Fx rfl rfl ((cm (bj (x:=.d (ls k)) rfl)).trans rfl)
 have e1:aK 1 [6] (iw (af 5)) (aq 0) (fun δ=>bd (e2 mY (aN cy (aa (af 0) ai)) (eC (.int 2)) δ) bD) (aZ (aa (eC (.str "group")) (aa (af 1) (aa (aN qD (aa (af 0) ai)) ai)))) [x0,x1,some (.own base),x3,x4,some (.d (.list (ks.map ls))),some (.d (.int (1+(n0:Int))))]=rt (.new (bz (ks.filter fun k=>decide (2<k.length)) n0)):=
  bb (f9 rfl) (by rw [List.length_map]; lia) c1
 have hl:(bz (ks.filter fun k=>decide (2<k.length)) n0).length<=100:=by
  unfold bz;rw [List.length_map];exact Lp (List.length_filter_le _ _) hk
 rw [jk ((au (x:=.own base) rfl e1).trans (hW rfl rfl rfl 0x1)) rfl];rfl
theorem Aa (h4:c<=4):(gg c).length<=100:=by
 match c,h4 with
 |0,_|1,_|2,_|3,_|4,_=>decide
 |n+5,h=>lia
theorem ym (h4:c<=4):(De c).length<=5:=by
 match c,h4 with
 |0,_|1,_|2,_|3,_|4,_=>decide
 |n+5,h=>lia
theorem AI (h4:c<=4):(De c).Perm (kF c):=by
 match c,h4 with
 |0,_|1,_|2,_|3,_|4,_=>decide
 |n+5,h=>lia
theorem rW {α:Type} {f g:α->List D} (h:∀a,(f a).Perm (g a)):∀as:List α,(as.flatMap f).Perm (as.flatMap g)
 |[]=>.refl _
 |a::as=>by
  rw [List.flatMap_cons,List.flatMap_cons];exact (h a).append (rW h as)
theorem Bt (h4:c<=4):(de m c++cJ (De c) m).Perm (cT m c):=by
 refine List.perm_append_comm.trans ?_;unfold cT;refine List.Perm.append_right _ ?_;unfold cJ;refine rW (fun n0=>?_) _;unfold bz;exact (AI c h4).map _
theorem uV (hm:m<=13) (h1:1<=c) (h4:c<=4):eX [.d (.int (m:Int)),.d (.int (c:Int))]=rt (.new (cT m c)):=by
 unfold eX me eE;have hd:mS ["most", "colours", "found", "colour", "first", "kinds", "number"] [.d (.int (m:Int)),.d (.int (c:Int))]=[some (.d (.int (m:Int))),some (.d (.int (c:Int))),none,none,none,none,none]:=rfl;rw [hd];have s1:aR 2 (bV ai) [some (.d (.int (m:Int))),some (.d (.int (c:Int))),none,none,none,none,none]=rt (.nx [some (.d (.int (m:Int))),some (.d (.int (c:Int))),some (.own []),none,none,none,none]):=rfl;rw [cg s1];obtain ⟨δ',e,y3,y4,hδ⟩:=gd (f:=fun (k:Nat)=>PyData.int (k:Int)) (i:=3) (N:=c) (B:=lC) (all:=List.range c)
  (fun pre δ=>∃y3 y4,δ=[some (.d (.int (m:Int))),some (.d (.int (c:Int))),some (.own (pre.flatMap (fx m))),y3,y4,none,none])
  (fun pre a δ ha hp ⟨y3,y4,hδ⟩=>by
   subst hδ;have hl:=c6 (fun a=>nr m a hm) pre;obtain ⟨z4,e⟩:=ED m hm (some (.d (.int (c:Int)))) a (pre.flatMap (fx m)) 0x1 y4 none none;refine ⟨_,e,some (.d (.int (a:Int))),z4,?_⟩;rw [List.flatMap_append,show [a].flatMap (fx m)=fx m a by simp])
  (List.range c) [] [some (.d (.int (m:Int))),some (.d (.int (c:Int))),some (.own []),none,none,none,none] (fun _ h=>h) 0x4 ⟨none,none,0x4⟩
 have s2:b9 (lx (aa (af 1) ai)) (aq 3) lC [some (.d (.int (m:Int))),some (.d (.int (c:Int))),some (.own []),none,none,none,none]=rt (.nx [some (.d (.int (m:Int))),some (.d (.int (c:Int))),some (.own (de m c)),y3,y4,none,none]):=by
  unfold b9;rw [fA (bj (x:=.d (.int (c:Int))) rfl) 0x1 0x1,aE,show (c:Int).toNat=c by lia,rO,e,hδ];rfl
 rw [show (b9 (k8 (aa (eC (.int 1)) (aa (e2 aw (af 0) (eC (.int 1))) ai))) (aq 4) (aR 2 (e2 aw (af 2) (aK 1 [3,4] (k8 (aa (e2 aw (af 4) (eC (.int 2))) (aa (e2 aw (af 0) (eC (.int 1))) ai))) (aq 0) bA (aZ (aa (eC (.str "run")) (aa (af 1) (aa (af 2) (aa (e2 aw (e2 gSub (af 0) (af 2)) (eC (.int 1))) ai)))))))))=lC from rfl];rw [cg s2];have s3:aR 5 (bV (aa (bV ai) ai)) [some (.d (.int (m:Int))),some (.d (.int (c:Int))),some (.own (de m c)),y3,y4,none,none]=rt (.nx [some (.d (.int (m:Int))),some (.d (.int (c:Int))),some (.own (de m c)),y3,y4,some (.own [.list []]),none]):=rfl;rw [cg s3];obtain ⟨z3,ek⟩:=xh c (some (.d (.int (m:Int)))) (some (.d (.int (c:Int)))) (some (.own (de m c))) y3 y4 none h1 h4;have s4:b9 (lx (aa (af 1) ai)) (aq 3) lK [some (.d (.int (m:Int))),some (.d (.int (c:Int))),some (.own (de m c)),y3,y4,some (.own [.list []]),none]=rt (.nx [some (.d (.int (m:Int))),some (.d (.int (c:Int))),some (.own (de m c)),z3,y4,some (.own ((gg c).map ls)),none]):=by
  unfold b9;rw [fA (bj (x:=.d (.int (c:Int))) rfl) 0x1 0x1,aE,show (c:Int).toNat=c by lia,ek]
 rw [show (fun δ=>(aR 5 (e2 aw (af 5) (aK 1 [3] (iw (af 5)) (aq 0) bA (e2 aw (af 0) (bV (aa (af 1) ai)))))) (frz 5 δ))=lK from rfl];rw [cg s4];have lr:=nJ m c hm;obtain ⟨δ2,eg,w5,w6,hδ2,_⟩:=gd (f:=fun (k:Nat)=>PyData.int (1+(k:Int))) (i:=6) (N:=m) (B:=lG) (all:=List.range m)
  (fun pre δ=>∃w5 w6,δ=[some (.d (.int (m:Int))),some (.d (.int (c:Int))),some (.own (de m c++pre.flatMap (bz (De c)))),z3,y4,some w5,w6]/\(w5=.own ((gg c).map ls)\/w5=.d (.list ((gg c).map ls))))
  (fun pre a δ ha hp ⟨w5,w6,hδ,hw⟩=>by
   subst hδ;have hl:=c6 (fun a=>ij (ym c h4) a) pre;refine ⟨_,DN (gg c) (Aa c h4) _ _ _ _ a (de m c++pre.flatMap (bz (De c))) (by rw [List.length_append]; lia) w5 hw,_,some (.d (.int (1+(a:Int)))),?_,.inr rfl⟩;rw [List.flatMap_append,show [a].flatMap (bz (De c))=bz (De c) a by simp,<-List.append_assoc];rfl)
  (List.range m) [] [some (.d (.int (m:Int))),some (.d (.int (c:Int))),some (.own (de m c)),z3,y4,some (.own ((gg c).map ls)),none] (fun _ h=>h) 0x4 ⟨.own ((gg c).map ls),none,0x4,.inl rfl⟩
 have s5:b9 (k8 (aa (eC (.int 1)) (aa (e2 aw (af 0) (eC (.int 1))) ai))) (aq 6) lG [some (.d (.int (m:Int))),some (.d (.int (c:Int))),some (.own (de m c)),z3,y4,some (.own ((gg c).map ls)),none]=rt (.nx [some (.d (.int (m:Int))),some (.d (.int (c:Int))),some (.own (de m c++cJ (De c) m)),z3,y4,some w5,w6]):=by
  unfold b9;rw [gN (bW (x:=.d (.int 1)) rfl ((au (x:=.d (.int (m:Int))) (y:=.d (.int 1)) rfl rfl).trans (bp _ _))) 0x1 0x1 0x1 0x1,aE,show ((m:Int)+1-1).toNat=m by lia];unfold cH;rw [eg,hδ2];rfl
 rw [show (fun δ=>(aR 2 (e2 aw (af 2) (aK 1 [6] (iw (af 5)) (aq 0) (fun δ=>bd (e2 mY (aN cy (aa (af 0) ai)) (eC (.int 2)) δ) bD) (aZ (aa (eC (.str "group")) (aa (af 1) (aa (aN qD (aa (af 0) ai)) ai))))))) (frz 5 δ))=lG from rfl];rw [cg s5];have hp:=Bt m c h4;have lg:=jN (ym c h4) m;have e9:aN pX (aa (af 2) ai) [some (.d (.int (m:Int))),some (.d (.int (c:Int))),some (.own (de m c++cJ (De c) m)),z3,y4,some w5,w6]=rt (.new (cT m c)):=by
  refine (cm (bj (x:=.own (de m c++cJ (De c) m)) rfl)).trans ?_;unfold pX;simp only;rw [oN,a8,aE,if_pos (xG (fun x hx=>ku (hp.mem_iff.mp hx)) (by rw [List.length_append]; lia)),wN hp]
 rw [bG e9];rfl
end
section
variable {F G:DS->M Out} {f fa fb fc:DS->M DV} {fr:DS->M (List DV)} {gc:DS->M Bool} {g:DV->DV->M DV} {δ δ':DS} {x y z:DV} {k:Bool} {r:M Out}
theorem hU (h:F δ=rt (.nx δ')) (h2:G δ'=r):bH F G δ=r:=(cg h).trans h2
theorem HU (h:gc δ=rt true) (h2:F δ=r):eQ gc F G δ=r:=(jz h).trans h2
theorem xT (h:gc δ=rt false) (h2:G δ=r):eQ gc F G δ=r:=(jz h).trans h2
theorem fL {i:Nat} (h:f δ=rt x) (ha:vy x=some y) (h2:δ.set i (some y)=δ'):aR i f δ=rt (.nx δ'):=by rw [jk h ha,h2]
theorem gH {n:Nat} {fm:List DV->M DV} {xs ys:List DV} {w:M DV} (h:fr δ=rt xs) (ha:args xs=some ys) (hn:ys.length=n) (hm:fm ys=w):aN (eB n fm) fr δ=w:=by
 rw [cm h];unfold eB;rw [ha,a8,aE,if_pos hn,hm]
theorem yA (h:f δ=rt x):nN f δ=rt (.nx δ):=by unfold nN; rw [h]; rfl
theorem eF {N:List Str} {xs:List DV} (h:F (mS N xs)=rt (.rt x)):eE N F xs=rt (res x):=by unfold eE; rw [h]; rfl
variable {ga gb:DS->M Bool}
theorem Ce (h1:ga δ=rt true):uL ga gb δ=rt true:=by unfold uL; rw [h1]; rfl
variable {b:Bool}
theorem rE (h1:ga δ=rt false) (h2:gb δ=rt b):uL ga gb δ=rt b:=by unfold uL; rw [h1,aE]; exact h2
theorem Cf (h1:ga δ=rt false):jJ ga gb δ=rt false:=by unfold jJ; rw [h1]; rfl
theorem uD (h1:ga δ=rt true) (h2:gb δ=rt b):jJ ga gb δ=rt b:=by unfold jJ; rw [h1,aE]; exact h2
theorem mK {a:Bool} (h1:ga δ=rt a) (hb:(!a)=b):gw ga δ=rt b:=by rw [tF h1,hb]
end
theorem uU {i:Nat} {B:DS->M Out} {I:DS->Prop}:∀(xs:List D) (δ:DS),(∀x∈xs,∀δ,I δ->∃δ',B (δ.set i (some (.d x)))=rt (.nx δ')/\I δ')->I δ->∃δ',dU (aq i) B xs δ=rt (.nx δ')/\I δ'
 |[],δ,_,hI=>⟨δ,rfl,hI⟩
 |x::xs,δ,h,hI=>by
  obtain ⟨δ1,e1,h1⟩:=h x KU δ hI;obtain ⟨δ2,e2,h2⟩:=uU xs δ1 (fun y hy=>h y (KS _ hy)) h1;refine ⟨δ2,?_,h2⟩;unfold dU;have hs:aq i x δ=some (δ.set i (some (.d x))):=rfl;rw [hs,a8,aE,e1,aE,pD];exact e2
theorem jM {fi:DS->M (List D)} {sf:D->DS->Option DS} {B:DS->M Out} {r:M Out} (h:fi δ=rt xs) (h2:dU sf B xs δ=r):b9 fi sf B δ=r:=by
 unfold b9;rw [h,aE,h2]
theorem Ef (a:Bool):iq [.d (.bool a),.d (.bool a)]=rt (.d (.bool true)):=by cases a <;> rfl
theorem Cp {α:Type} {f:α->D} {as:List α} {k:Nat} (h:k<as.length) (d:α):atI (as.map f) (k:Int)=some (f (as.getD k d)):=by
 rw [tQ,xH h d];rfl
theorem vx {neg:Bool} {ps qs:List (Int×Int)} {x y:DV} (hx:mR x=some (.list (ps.map pr))) (hy:mR y=some (.list (qs.map pr))):gx neg x y=rt (.d (.bool (if neg=true then !decide (ps=qs) else decide (ps=qs)))):=by
 have h:=t8 neg ps qs y hy;unfold gx at h ⊢;rw [hx];exact h
theorem Ki {C CB:Addr} {fb:DS->M DV} {m c:Int} (h1:fa δ=rt (.d (.int m))) (h2:fb δ=rt (.d (.int c))) (h3:3<=m) (OQ:m<=13) (h4:1<=c) (h5:c<=4):EL C CB (aa fa (aa fb ai)) δ=rt (hs C m c):=by
 unfold EL;rw [cm (bW h1 h2)];show (if jK m c=true then _ else _)=_;rw [if_pos (by unfold jK; simp; lia)];rfl
section
variable {F G:DS->M Out} {B:DS->M Out} {f fe:DS->M DV} {fi:DS->M (List D)} {gc:DS->M Bool} {δ:DS} {r:M Out} {i k:Nat} {js:List Nat}
theorem JC {I:DS->Prop} (h:fi δ=rt xs) (hI:I δ) (ht:∀x∈xs,∀δ,I δ->∃δ',B (δ.set i (some (.d x)))=rt (.nx δ')/\I δ') (kk:∀δ',I δ'->G δ'=r):bH (b9 fi (aq i) B) G δ=r:=by
 obtain ⟨δ',e,h'⟩:=uU (i:=i) (B:=B) xs δ ht hI;exact hU (jM h e) (kk δ' h')
end
theorem B3 {T t:String} {x:DV} {b:Bool} (h:fa δ=rt x) (ht:(mR x).bind F9=some t) (hb:HS T t=b):Gw T fa δ=rt (.d (.bool b)):=by
 unfold Gw;rw [h,aE,ht,a8,aE,hb]
section
variable {F G:DS->M Out} {f fa fb fc fd fe:DS->M DV} {fr:DS->M (List DV)} {fi:DS->M (List D)} {gc:DS->M Bool} {δ:DS} {Q:DS->Prop} {r:M Out} {i:Nat} {x y z u:DV} {b:Bool}
theorem Iy (h1:fa δ=rt x) (h2:fb δ=rt y) (h3:fc δ=rt z) (h4:fd δ=rt u):aa fa (aa fb (aa fc (aa fd ai))) δ=rt [x,y,z,u]:=by
 have:=fW h2 h3 h4;unfold aa at this ⊢;rw [h1,aE,this]; rfl
theorem KA {v:DV} (h1:fa δ=rt x) (h2:fb δ=rt y) (h3:fc δ=rt z) (h4:fd δ=rt u) (h5:fe δ=rt v):aa fa (aa fb (aa fc (aa fd (aa fe ai)))) δ=rt [x,y,z,u,v]:=by
 have:=Iy h2 h3 h4 h5;unfold aa at this ⊢;rw [h1,aE,this]; rfl
theorem CC {a:D} (h1:fa δ=rt (.d a)):bV (aa fa ai) δ=rt (.new [a]):=by
 unfold bV;rw [bj h1];rfl
end
inductive Ml where
 |r (c f n:Int)
 |g (n:Int) (k:List Int)
noncomputable def md:Ml->D
 |.r c f n=>rn c f n
 |.g n k=>gp n k
noncomputable def tl:Ml->List Tl
 |.r c f n=>(List.range n.toNat).map fun (k:Nat)=>(f+(k:Int),c)
 |.g n k=>k.map fun x=>(n,x)
noncomputable def AF (m c:Nat):Ml->Bool
 |.r col f n=>mj m c col f n
 |.g n k=>mL m c n k
theorem C4:∀y:Ml,Ay (md y)
 |.r c f n=>.inl ⟨c,f,n,rfl⟩
 |.g n k=>.inr ⟨n,k,rfl⟩
structure oP (m c:Nat) (y:Ml):Prop where
 known:((cT m c).any fun z=>PyData.eqv z (md y))=AF m c y
 tiles:∀C E:Addr,cQ C E [hs C m c,.d (md y)]=if AF m c y=true then rt (.new ((tl y).map pr)) else some (.error (.ref E))
 law:bq [.d (md y)]=rt (.new ((tl y).map pr))
 len:(tl y).length<=13
 box:∀p∈tl y,0<=p.1/\p.1<=13/\0<=p.2/\p.2<=3
theorem Ic {col f n:Int} (h0:0<=n) (h1:n<=13) (h2:0<=f) (h3:f+n-1<=13) (h4:0<=col) (h5:col<=3):oP m c (.r col f n):=by
 have ht:jL col f n=(tl (.r col f n)).map pr:=by unfold jL tl; rw [List.map_map]; rfl
 refine ⟨sN m c col f n,fun C E=>?_,?_,by unfold tl; simp; lia,fun p hp=>?_⟩
 ·show cQ C E [hs C m c,.d (rn col f n)]=_;rw [uZ C E m c col f n 0x1 0x1,ht];rfl
 ·show bq [.d (rn col f n)]=_;rw [oq col f n 0x1 0x1,ht]
 ·obtain ⟨k,hk,rfl⟩:=Lf.mp hp;have hk:=Lh.mp hk;exact ⟨by show 0<=f+(k:Int); lia,by show f+(k:Int)<=13; lia,h4,h5⟩
theorem IY {n:Int} (h0:0<=n) (h1:n<=13) (hl:k.length<=4) (hk:∀x∈k,0<=x/\x<=3) (hc:yp c k=decide (k∈kF c)):oP m c (.g n k):=by
 have ht:kl n k=(tl (.g n k)).map pr:=by unfold kl tl; rw [List.map_map]; rfl
 refine ⟨(sO m c n k).trans (E5 m c n k hc).symm,fun C E=>?_,?_,by unfold tl; simp; lia,fun p hp=>?_⟩
 ·show cQ C E [hs C m c,.d (gp n k)]=_;rw [u4 C E m c n k 0x1,ht];rfl
 ·show bq [.d (gp n k)]=_;rw [ow n k 0x1,ht]
 ·obtain ⟨x,hx,rfl⟩:=Lf.mp hp;exact ⟨h0,h1,(hk x hx).1,(hk x hx).2⟩
theorem GX:∀c∈[1,2,3,4],∀k∈kF c,k.length<=4/\(∀x∈k,0<=x/\x<=3)/\yp c k=decide (k∈kF c):=by decide +kernel
theorem JK (h1:1<=c) (h4:c<=4):c∈[1,2,3,4]:=by simp; lia
theorem AW (hm:m<=13) (h1:1<=c) (h4:c<=4) (h:x∈cT m c):∃y,md y=x/\oP m c y:=by
 unfold cT at h;rcases Ld.mp h with q|q
 ·obtain ⟨n0,k,hk,hn,rfl⟩:=g8 q;obtain ⟨a1,a2,a3⟩:=GX c (JK h1 h4) k hk;exact ⟨.g _ k,rfl,IY 0x1 0x1 a1 a2 a3⟩
 ·obtain ⟨col,f0,s,hc,_,hs,rfl⟩:=km q;exact ⟨.r _ _ _,rfl,Ic 0x1 0x1 0x1 0x1 0x1 0x1⟩
noncomputable def Hg (xs:List D):Bool:=(List.range (xs.length-1)).all fun k=>!ll (lW (xs.getD (k+1) .none)) (lW (xs.getD k .none))
theorem JS (hx:Ay x) (hy:Ay y):PyData.eqv x y=true↔x=y:=by
 rcases hx with ⟨c,f,n,rfl⟩|⟨n,k,rfl⟩ <;> rcases hy with ⟨c',f',n',rfl⟩|⟨n',k',rfl⟩
 ·rw [wq];constructor
  ·intro h; simp at h; obtain ⟨rfl,rfl,rfl⟩:=h; rfl
  ·intro h; unfold rn at h; simp at h; simp [h]
 ·rw [rV];exact ⟨fun h=>(Bool.false_ne_true h).elim,fun h=>by unfold rn gp at h; simp at h⟩
 ·rw [rD];exact ⟨fun h=>(Bool.false_ne_true h).elim,fun h=>by unfold rn gp at h; simp at h⟩
 ·rw [xP];constructor
  ·intro h; simp at h; obtain ⟨rfl,rfl⟩:=h; rfl
  ·intro h;unfold gp at h;simp at h;simp [h.1,Cm h.2]
theorem Bq (l:By) (t' t:Tl) (w:List Tl):c8 (fu l t' w) t=if t'=t then c8 l t++[w] else c8 l t:=by
 unfold fu;by_cases hb:jG l t'=true
 ·rw [if_pos hb];unfold c8;rw [List.find?_map];have e:((fun x=>decide (x.1=t))∘fun x:d7×List (List d7)=>if x.1=t' then (x.1,x.2++[w]) else x)=fun x=>decide (x.1=t):=by
   funext x;show decide ((if x.1=t' then (x.1,x.2++[w]) else x).1=t)=_;split <;> rfl
  rw [e];cases hf:l.find? fun x=>decide (x.1=t) with
  |none=>
   by_cases ht:t'=t
   ·subst ht;obtain ⟨x,hx,h2⟩:=List.any_eq_true.mp hb;have:=List.find?_eq_none.mp hf x hx;exact absurd h2 this
   ·rw [if_neg ht]; rfl
  |some x=>
   have hx:x.1=t:=by simpa using List.find?_some hf
   by_cases ht:t'=t
   ·rw [if_pos ht];show ((some (if x.1=t' then (x.1,x.2++[w]) else x)).map (·.2)).getD []=x.2++[w];rw [if_pos (hx.trans ht.symm)]; rfl
   ·rw [if_neg ht];show ((some (if x.1=t' then (x.1,x.2++[w]) else x)).map (·.2)).getD []=x.2;rw [if_neg (fun z=>ht (z.symm.trans hx))]; rfl
 ·rw [if_neg hb];unfold c8;rw [List.find?_append];cases hf:l.find? fun x=>decide (x.1=t) with
  |none=>
   by_cases ht:t'=t
   ·rw [if_pos ht]; simp [ht]
   ·rw [if_neg ht]; simp [ht]
  |some x=>
   have hx:x.1=t:=by simpa using List.find?_some hf
   have ht:t'≠t:=fun z=>hb (List.any_eq_true.mpr ⟨x,List.mem_of_find?_eq_some hf,by simp [hx,z]⟩);rw [if_neg ht]; rfl
theorem vW (w x:List Tl) (t:Tl):∀(ts:List Tl) (l:By),x∈c8 (ts.foldl (fun l t=>fu l t w) l) t↔x∈c8 l t\/(x=w/\t∈ts)
 |[],l=>by simp
 |s::ts,l=>by
  rw [List.foldl_cons,vW w x t ts,Bq];by_cases hs:s=t
  ·rw [if_pos hs];subst hs;rw [List.mem_append,List.mem_singleton];constructor
   ·rintro ((h|h)|h)
    ·exact .inl h
    ·exact .inr ⟨h,KU⟩
    ·exact .inr ⟨h.1,KS _ h.2⟩
   ·rintro (h|h)
    ·exact .inl (.inl h)
    ·exact .inl (.inr h.1)
  ·have NM:¬t=s:=fun e=>hs e.symm;rw [if_neg hs]; simp [NM]
theorem yo (x:List Tl) (t:Tl):∀(LF:List (List Tl)) (l:By),x∈c8 (LF.foldl iJ l) t↔x∈c8 l t\/(x∈LF/\t∈x.take 3)
 |[],l=>by simp
 |w::LF,l=>by
  rw [List.foldl_cons,yo x t LF];unfold iJ;rw [vW];constructor
  ·rintro ((h|⟨h,h2⟩)|⟨h,h2⟩)
   ·exact .inl h
   ·subst h; exact .inr ⟨KU,h2⟩
   ·exact .inr ⟨KS _ h,h2⟩
  ·rintro (h|⟨h,h2⟩)
   ·exact .inl (.inl h)
   ·rcases Lc.mp h with e|h
    ·subst e; exact .inl (.inr ⟨rfl,h2⟩)
    ·exact .inr ⟨h,h2⟩
theorem jZ (x:List Tl) (t:Tl) (LF:List (List Tl)):x∈c8 (lQ LF) t↔x∈LF/\t∈x.take 3:=by
 unfold lQ;rw [yo];have:c8 ([]:By) t=[]:=rfl;rw [this]; simp
noncomputable def uh (m c:Nat):List Ml:=((List.range m).flatMap fun (n0:Nat)=>(kF c).map fun k=>Ml.g (1+(n0:Int)) k)++(List.range c).flatMap fun (col:Nat)=>(List.range m).flatMap fun (f0:Nat)=>(List.range (m-2-f0)).map fun (s:Nat)=>Ml.r (col:Int) (1+(f0:Int)) (3+(s:Int))
theorem tY (m c:Nat):(uh m c).map md=cT m c:=by
 unfold uh cT cJ bz de fx dn;simp only [List.map_append,List.map_flatMap,List.map_map];rfl
theorem CM:∀{x y:Ml},md x=md y->x=y
 |.r _ _ _,.r _ _ _,h=>by
  have h':rn _ _ _=rn _ _ _:=h;unfold rn at h';simp at h';obtain ⟨rfl,rfl,rfl⟩:=h';rfl
 |.g _ _,.g _ _,h=>by
  have h':gp _ _=gp _ _:=h;unfold gp at h';simp at h';obtain ⟨rfl,h2⟩:=h';rw [Cm h2]
 |.r _ _ _,.g _ _,h=>by
  have h':rn _ _ _=gp _ _:=h;unfold rn gp at h';simp at h'
 |.g _ _,.r _ _ _,h=>by
  have h':gp _ _=rn _ _ _:=h;unfold rn gp at h';simp at h'
theorem Cd (hm:m<=13) (h1:1<=c) (h4:c<=4) {y:Ml} (h:y∈uh m c):oP m c y/\AF m c y=true:=by
 have hk:md y∈cT m c:=by rw [<-tY]; exact Lf.mpr ⟨y,h,rfl⟩
 obtain ⟨z,e,hz⟩:=AW hm h1 h4 hk;have:=CM e;subst this;refine ⟨hz,?_⟩;rw [<-hz.known];exact List.any_eq_true.mpr ⟨md z,hk,(JS (C4 z) (C4 z)).mpr rfl⟩
noncomputable def GN (m c:Nat):List (List Tl):=(uh m c).map tl
variable {w:List Tl}
theorem CD:w∈GN m c↔(∃n0:Nat,n0<m/\∃k∈kF c,w=k.map fun x=>(1+(n0:Int),x))\/∃col f0 s:Nat,col<c/\f0<m/\s<m-2-f0/\w=(List.range (3+s)).map fun (k:Nat)=>(1+(f0:Int)+(k:Int),(col:Int)):=by
 unfold GN uh;simp only [List.map_append,List.map_flatMap,List.map_map,List.mem_append,List.mem_flatMap,List.mem_range,List.mem_map,Function.comp];constructor
 ·rintro (⟨n0,h,k,hk,rfl⟩|⟨col,h1,f0,h2,s,h3,rfl⟩)
  ·exact .inl ⟨n0,h,k,hk,rfl⟩
  ·refine .inr ⟨col,f0,s,h1,h2,h3,?_⟩;show (List.range (3+(s:Int)).toNat).map _=_;rw [show (3+(s:Int)).toNat=3+s by lia]
 ·rintro (⟨n0,h,k,hk,rfl⟩|⟨col,f0,s,h1,h2,h3,rfl⟩)
  ·exact .inl ⟨n0,h,k,hk,rfl⟩
  ·refine .inr ⟨col,h1,f0,h2,s,h3,?_⟩;show (List.range (3+(s:Int)).toNat).map _=_;rw [show (3+(s:Int)).toNat=3+s by lia]
theorem yQ:∀c∈[1,2,3,4],∀k∈kF c,k.Pairwise (·<·)/\3<=k.length/\k.length<=4/\∀x∈k,0<=x/\x<(c:Int):=by decide +kernel
theorem B5 (h1:1<=c) (h4:c<=4) (h:w∈GN m c):w.Pairwise GR:=by
 rcases CD.mp h with ⟨n0,_,k,hk,rfl⟩|⟨col,f0,s,_,_,_,rfl⟩
 ·have:=(yQ c (JK h1 h4) k hk).1;rw [List.pairwise_map];exact this.imp fun h=>.inr ⟨rfl,h⟩
 ·rw [List.pairwise_map];exact (List.pairwise_lt_range).imp fun h=>.inl (by show 1+(f0:Int)+_<1+(f0:Int)+_; lia)
theorem sM (hm:m<=13) (h1:1<=c) (h4:c<=4) (h:w∈GN m c):3<=w.length/\w.length<=13:=by
 rcases CD.mp h with ⟨n0,_,k,hk,rfl⟩|⟨col,f0,s,_,_,_,rfl⟩
 ·have:=yQ c (JK h1 h4) k hk;rw [List.length_map]; lia
 ·rw [List.length_map,List.length_range]; lia
end LW
namespace L3
open PySem PySem.Spec L2
open PyProof.Rows hiding St
noncomputable def KQ (xs:List DV):M DV:=match xs with
 |[.d (.int i),.new ys]=>rt (.nwt [.int i] ys [])
 |_=>none
def Jy (Pr:Program) (w:World) (C:Addr) (f:PyData->Option Int) (U:List PyData):Sp:=fun vs H Q _=>∃p dx v O xs LF,vs=[.ref p,v]/\H p=some (.ins C dx [])/\p∈O/\(∀a,a∈O->∃o,H a=some o)/\Rp O H (.list xs) v/\gO xs=some LF/\LF.length<=1000 /\
 ∀H' b k kvs,(∀a o,a≠p->H a=some o->H' a=some o)->H' p=some (.ins C dx [("by_least",.ref b),("known",.ref k)])->b∉O->H' b=some (dO Pr w b kvs)->BK O H' (lQ LF) kvs->k∉O->H' k=some (mO Pr w k f U)->Q .non H'
noncomputable def Bm (Pr:Program) (w:World) (xs:List DV):M DV:=match xs with
 |[.d (.list ps)]=>bd (op (gO ps)) fun LF=>if LF.length<=1000 then rt (.fz (.dl Pr w (lQ LF))) else none
 |_=>none
noncomputable def GZ (Pr:Program) (w:World) (C:Addr) (f:PyData->Option Int) (U:List PyData) (xs:List DV):M DV:=match xs with
 |[x]=>match v9 x with
  |some (.list ps)=>bd (op (gO ps)) fun LF=>if LF.length<=1000 then rt (.fz (.tb Pr w C (lQ LF) f U)) else none
  |_=>none
 |_=>none
structure HsT (P:Program) (w:World) (K:Lb) (mg:Str->Option Value) (base:Heap) (x:Str) (C:Addr) (k:Nat) (f:PyData->Option Int) (U:List PyData):Prop where
 ex:∃g fd ps,Mk K C g/\FnOk P w K mg base uH k g fd ps (Jy P w C f U)/\gi K fd ps []/\mg x=some (.ref C)
section
variable {X:Cx} {E:XK} {e:Expr} {es:List Expr} {pos p:Pos} {fr:DS->M (List DV)}
theorem B0 {x:Str} {C:Addr} {k:Nat} {f:PyData->Option Int} {U:List PyData} (h:HsT X.prog X.w X.K X.mg X.base x C k f U) (hr:Room (k+1) X.A) (ha:vg X E (e::es) fr) (hg:Gl X x:=by rfl) (Mi:(x==("__debug__" : Str))=false:=by decide)
  (he:starEach (e::es) X.env=(false,eval e X.env)::starEach es X.env:=by rfl) (L9:(backTo pos (starEach es X.env)).any (·.1)=false:=by rfl):PX X E (.Call (.Name x p) (e::es) [] pos) (aN (GZ X.prog X.w C f U) fr):=by
 obtain ⟨g,fd,ps,hM,hF,hb,hm⟩:=h.ex;refine PE.mono (yy (E:=E0) hM hF hr hg hm hb .nil (fun _ _ _ _ _ _ _ h=>h.elim) ha Mi he L9) fun σ H Q q=>nP (g:=fun _=>GZ X.prog X.w C f U) q fun O P δ xs r vs H1 rs LC s1 rx e q=>?_;unfold GZ at e;split at e
 ·rename_i y;split at e
  ·rename_i ps hy;obtain ⟨LF,e1,e2⟩:=bQ e;split at e2
   ·rename_i hl;cases e2;cases rx with
    |@cons _ v _ _ r1 rr=>
     cases rr;have rd:=r1.data rs.dom hy;intro x dx nx ndx ne;have s2:aF H1 (bX (bX H1 dx (.own x)) x (.ins C dx [])):=fun b o q=>by rw [aG (bN q nx),aG (bN q ndx)]; exact q
     have k2:Kp (P++O) H1 (x::dx::(P++O)) (bX (bX H1 dx (.own x)) x (.ins C dx [])):=⟨fun a o _ e=>s2 a o e,fun a ha=>by
      rcases Lc.mp ha with z|ha
      ·exact .inr (z▸nx)
      ·rcases Lc.mp ha with z|z
       ·exact .inr (z▸ndx)
       ·exact .inl z⟩
     refine ⟨x,dx,v,x::dx::(P++O),ps,LF,rfl,aW,KU,fun a ha=>?_,rd.kp k2,e1,hl,fun H' b k kvs hk hp hb eb hby hkO ek=>⟨rfl,q _ H' (fun a o e=>?_) ?_⟩⟩
     ·rcases Lc.mp ha with z|ha
      ·exact ⟨_,by rw [z]; exact aW⟩
      ·rcases Lc.mp ha with z|z
       ·exact ⟨_,by rw [z,aG ne,aW]⟩
       ·obtain ⟨o,e⟩:=LC.dom a z;exact ⟨o,s2 a o e⟩
     ·exact hk a o (bN e nx) (s2 a o e)
     ·have sub:∀a,a∈P++O->a∈x::dx::(P++O):=fun a ha=>KS _ (KS _ ha);refine ⟨x,dx,rfl,fun z=>?_,b,k,kvs,hp,fun z=>hb (sub _ z),eb,hby.kp (.sub sub),fun z=>hkO (sub _ z),ek⟩;obtain ⟨o,e⟩:=LC.dom x z;rw [nx] at e; cases e
   ·cases e2
  ·cases e
 ·cases e
end
theorem zJ {X:Cx} {C:Addr} {f:PyData->Option Int} {U:List PyData} {fv:DS->M DV} {vs:List V} {H:Hp} {Q:VK} (c:Cls X.K C) (n1:eR X.K C "by_least") (n2:eR X.K C "known") (MK:Jy X.prog X.w C f U vs H Q E0)
  (ev:∀xs LF,gO xs=some LF->LF.length<=1000->fv [none,some (.d (.list xs))]=rt (.fz (.dl X.prog X.w (lQ LF)))) :
  ID (HA X.K (ph 0) (tE E0 fv) "by_least") (HA X.K (ph 0) (fun σ H Q=>∀p,H p=none->Q (.ref p) (bX H p (mO X.prog X.w p f U))) "known") { nx:=fun _ H'=>Q .non H',rt:=Q } (vs.map some) H:=by
 obtain ⟨p,dx,v,O,xs,LF,rfl,hp,hpO,dom,rd,ep,hl,q⟩:=MK;have rs:RS O [] H [some (.ref p),some v] [none,some (.d (.list xs))]:=by
  refine ⟨rfl,dom,fun a ha=>(nomatch ha),fun i x h=>?_,fun i j x y v w a h1 h2 h3 h4 o1 o2=>?_⟩
  ·match i with
   |0=>cases h
   |1=>cases h; exact ⟨_,rfl,fun _=>nofun,rd⟩
   |i+2=>simp at h
  ·match i with
   |0=>cases h1
   |1=>cases h1; exact o1.elim
   |i+2=>simp at h1
 refine ⟨O,[],_,_,rs,ev xs LF ep hl,fun u H1 s1 ru=>?_⟩;obtain ⟨b,_,rfl,hb,kvs,eb,hby⟩:=ru;have Mv:b∉O:=hb;have hby':BK O H1 (lQ LF) kvs:=hby;refine ⟨.ref p,rfl,p,C,dx,[],rfl,s1 _ _ hp,c,n1,0x3,fun k hk=>?_⟩;have hkp:k≠p:=fun z=>by rw [z,aW] at hk; cases hk
 have hk1:H1 k=none:=by rw [aG hkp] at hk; exact hk
 refine ⟨.ref p,rfl,p,C,dx,_,rfl,by rw [aG (Ne.symm hkp),aW],c,n2,by show 1<1000; decide,?_⟩;have hkb:b≠k:=fun z=>by rw [z,hk1] at eb; cases eb
 have hpb:b≠p:=fun z=>by have:=s1 _ _ hp; rw [z,this] at eb; cases eb
 have kk:∀a o,a≠p->H1 a=some o->bX (bX (bX H1 p (.ins C dx (gu "by_least" (.ref b) []))) k (mO X.prog X.w k f U)) p (.ins C dx (gu "known" (.ref k) (gu "by_least" (.ref b) []))) a=some o:=fun a o ha e=>by
  rw [aG ha,aG (bN e hk1),aG ha]; exact e
 refine q _ b k kvs (fun a o ha e=>kk a o ha (s1 _ _ e)) (by rw [aW,Fs 0x3]) Mv (kk b _ hpb eb) (hby'.kp ⟨fun a o ha e=>kk a o (fun z=>ha (by rw [z]; exact hpO)) e,fun a ha=>.inl ha⟩) (fun z=>?_) (by rw [aG hkp,aW]);obtain ⟨o,e⟩:=dom k z;rw [s1 _ _ e] at hk1; cases hk1
end L3
namespace LW
open PySem PySem.Spec L2 L3
noncomputable def nM (C:Addr):DS->M Out:=(bH (aR 1 (bV ai)) (bH (b9 (k8 (aa (eC (.int 1)) (aa (e2 aw (ft C "most" (af 0)) (eC (.int 1))) ai))) (aq 2) (nI 1 (aK 1 [2] (lx (aa (ft C "colours" (af 0)) ai)) (aq 0) bA (aZ (aa (af 1) (aa (af 0) ai)))))) (bt (af 1))))
noncomputable def fS (C:Addr):List DV->M DV:=eE ["house", "found", "number"] (nM C)
noncomputable def lZ (C:Addr) (K7:Addr):DS->M Out:=(eQ (gw (fun δ=>bd ((aN (ay 3 (iO C)) (aa (af 0) (aa (af 1) (aa (af 2) ai)))) δ) bD)) (fun _=>some (.error (.ref K7))) bK)
noncomputable def dk (C:Addr) (K7:Addr):List DV->M DV:=eE ["house", "hand", "jokers"] (lZ C K7)
noncomputable def rP:DS->M Out:=(bH (aR 3 (aN u9 (aa (af 0) ai))) (bH (b9 (iw (af 2)) (aq 4) (eQ (fun δ=>bd (e2 (wy false) (af 4) (af 3) δ) bD) (qI 3 (af 4)) bK)) (bH (aR 5 (e2 gSub (aN cy (aa (af 0) ai)) (aN cy (aa (af 3) ai)))) (bt (Bx (aa (af 3) (aa (e2 gSub (af 1) (e2 gSub (aN cy (aa (af 2) ai)) (af 5))) ai)))))))
noncomputable def eP:List DV->M DV:=eE ["tiles", "jokers", "wanted", "rest", "tile", "from_hand"] (rP)
noncomputable def iF (C:Addr) (K9:Addr):DS->M Out:=(bH (aR 3 (aK 1 [0] (iw (aN (ay 1 (mG C)) (aa (af 0) ai))) (aq 0) bA (aZ (aa (af 0) (aa (aN (eB 2 (cQ C K9)) (aa (af 1) (aa (af 0) ai))) ai))))) (fun δ=>(bt (aK 1 [1,2] (iw (af 3)) (aq 0) (fun δ=>bd (e2 HH (e2 cb (GD (aN (ay 3 (eP)) (aa (af 1) (aa (af 2) (aa (e2 cb (af 0) (eC (.int 1))) ai))))) (eC (.int 1))) (eC (.int 0)) δ) bD) (af 0))) (frz 3 δ)))
noncomputable def bU (C:Addr) (K9:Addr):List DV->M DV:=eE ["house", "hand", "jokers", "pairs"] (iF C K9)
noncomputable def CQ (P:Program) (w:World) (CT:Addr):DS->M Out:=(bH (aR 3 (aK 1 [1,2] (iw (Fe P w CT (af 0) (e2 cb (af 1) (eC (.int 0))) (bV ai))) (aq 0) bA (aN (ay 3 (eP)) (aa (af 1) (aa (af 2) (aa (af 0) ai)))))) (fun δ=>(bt (aK 1 [] (iw (af 3)) (aq 0) (fun δ=>bd (e2 HH (e2 cb (af 0) (eC (.int 1))) (eC (.int 0)) δ) bD) (af 0))) (frz 3 δ)))
noncomputable def m9 (P:Program) (w:World) (CT:Addr):List DV->M DV:=eE ["self", "tiles", "jokers", "after"] (CQ P w CT)
noncomputable def pE (P:Program) (w:World) (CT:Addr) (m_ways:List DV->M DV) (m_covers:List DV->M DV):DS->M Out:=(bH (eQ (gw (fun δ=>bd ((af 1) δ) Ge)) (bt (eC (.bool true))) bK) (bH (b9 (iw (kn P w CT 3 m_ways (af 0) (aa (af 1) (aa (af 2) ai)))) (nq 2 (dE (aq 3) (dE (aq 4) n4))) (eQ (fun δ=>bd ((kn P w CT 3 m_covers (af 0) (aa (af 3) (aa (af 4) ai))) δ) bD) (bt (eC (.bool true))) bK)) (bt (eC (.bool false)))))
noncomputable def gM (P:Program) (w:World) (CT:Addr) (m_ways:List DV->M DV) (m_covers:List DV->M DV):List DV->M DV:=eE ["self", "tiles", "jokers", "rest", "unused"] (pE P w CT m_ways m_covers)
noncomputable def jw (P:Program) (w:World) (C:Addr) (CT:Addr) (K7:Addr) (K9:Addr) (fM:PyData->Option Int) (UM:List PyData) (m_covers:List DV->M DV):DS->M Out:=(bH (nN (aN (eB 3 (dk C K7)) (aa (af 0) (aa (af 1) (aa (af 2) ai))))) (bt (kn P w CT 3 m_covers (aN (GZ P w CT fM UM) (aa (aN (eB 3 (bU C K9)) (aa (af 0) (aa (af 1) (aa (af 2) ai)))) ai)) (aa (af 1) (aa (af 2) ai)))))
noncomputable def lB (P:Program) (w:World) (C:Addr) (CT:Addr) (K7:Addr) (K9:Addr) (fM:PyData->Option Int) (UM:List PyData) (m_covers:List DV->M DV):List DV->M DV:=eE ["house", "hand", "jokers"] (jw P w C CT K7 K9 fM UM m_covers)
noncomputable def kq (P:Program) (w:World) (C:Addr) (CT:Addr) (K7:Addr) (K9:Addr) (fM:PyData->Option Int) (UM:List PyData) (m_covers:List DV->M DV):DS->M Out:=(bH (nN (aN (eB 3 (dk C K7)) (aa (af 0) (aa (af 1) (aa (af 2) ai))))) (bH (eQ (fun δ=>bd (e2 (gx false) (aN cy (aa (af 1) ai)) (eC (.int 12)) δ) bD) (bt (bV ai)) bK) (bH (aR 3 (aN (GZ P w CT fM UM) (aa (aN (eB 3 (bU C K9)) (aa (af 0) (aa (af 1) (aa (e2 aw (af 2) (eC (.int 1))) ai)))) ai))) (bH (aR 4 (aK 1 [1] (iw (aN (ay 1 (fS C)) (aa (af 0) ai))) (aq 0) (fun δ=>bd (e2 gn (k9 (af 1) (af 0)) (eC (.int 2)) δ) bD) (af 0))) (fun δ=>(bt (aK 1 [2,3,1] (iw (af 4)) (aq 0) (fun δ=>bd ((kn P w CT 3 m_covers (af 2) (aa (aN lD (aa (e2 aw (af 3) (bV (aa (af 0) ai))) ai)) (aa (af 1) ai))) δ) bD) (af 0))) (frz 4 δ))))))
noncomputable def nG (P:Program) (w:World) (C:Addr) (CT:Addr) (K7:Addr) (K9:Addr) (fM:PyData->Option Int) (UM:List PyData) (m_covers:List DV->M DV):List DV->M DV:=eE ["house", "hand", "jokers", "table", "room"] (kq P w C CT K7 K9 fM UM m_covers)
theorem AX (r:List Tl) (p:Tl):((r.map pr).any fun z=>PyData.eqv z (pr p))=decide (p∈r):=by
 induction r with
 |nil=>rfl
 |cons q r ih=>
  rw [List.map_cons,List.any_cons,ih,lq];by_cases h:q=p
  ·subst h; simp
  ·have:p≠q:=fun e=>h e.symm;simp [h,this]
theorem yR (r:List Tl) (p:Tl):wy false (.d (pr p)) (.own (r.map pr))=rt (.d (.bool (decide (p∈r)))):=by
 unfold wy;show (if (pr p).depth<=60 then _ else none)=_;rw [if_pos (show (pr p).depth<=60 from (by decide:1<=60))];show rt (DV.d (.bool ((r.map pr).any fun z=>PyData.eqv z (pr p))))=_;rw [AX]
theorem sT (p:Tl):∀r:List Tl,(r.map pr).findIdx? (fun z=>PyData.eqv z (pr p))=r.findIdx? (·==p)
 |[]=>rfl
 |q::r=>by
  rw [List.map_cons,List.findIdx?_cons,List.findIdx?_cons,sT p r,lq];by_cases h:q=p
  ·subst h; simp
  ·have:(q==p)=false:=by simpa using h
   rw [this,Lr h]
theorem jt {α β:Type} (f:α->β):∀(l:List α) (b:Nat),(l.map f).eraseIdx b=(l.eraseIdx b).map f
 |[],_=>rfl
 |_::_,0=>rfl
 |x::l,b+1=>by
  show f x::(l.map f).eraseIdx b=f x::(l.eraseIdx b).map f;rw [jt f l b]
theorem qf {p:Tl}:∀{r:List Tl},p∈r->∃j,r.findIdx? (·==p)=some j/\r.eraseIdx j=r.erase p
 |q::r,h=>by
  rw [List.findIdx?_cons,List.erase_cons];by_cases hq:q=p
  ·subst hq;exact ⟨0,0x4,0x4⟩
  ·have hb:(q==p)=false:=by simpa using hq
   obtain ⟨j,e1,e2⟩:=qf ((Lc.mp h).resolve_left fun e=>hq e.symm);refine ⟨j+1,by rw [hb,e1]; rfl,?_⟩;rw [hb];show q::r.eraseIdx j=_;rw [e2];rfl
noncomputable def oδ (hand:List Tl) (j:Int) (need r:List Tl) (x4 x5:Option DV):DS:=[some (.d (.list (hand.map pr))),some (.d (.int j)),some (.d (.list (need.map pr))),some (.own (r.map pr)),x4,x5]
noncomputable def oB:DS->M Out:=(eQ (fun δ=>bd (e2 (wy false) (af 4) (af 3) δ) bD) (qI 3 (af 4)) bK)
theorem AO (hand:List Tl) (j:Int) (need:List Tl) (hl:need.length<=1000):∃x4,dU (aq 4) oB (need.map pr) (oδ hand j need hand none none)=rt (.nx (oδ hand j need (av hand need) x4 none)):=by
 obtain ⟨δ',e,x4,h⟩:=gd (f:=pr) (i:=4) (N:=1000) (B:=oB) (all:=need) (fun pre δ=>∃x4,δ=oδ hand j need (av hand pre) x4 none) (fun pre p δ hp MU hI=>by
  obtain ⟨x4,rfl⟩:=hI;have hla:av hand (pre++[p])=(av hand pre).erase p:=by unfold av; rw [List.foldl_append]; rfl
  refine ⟨oδ hand j need (av hand (pre++[p])) (some (.d (pr p))) none,?_,_,rfl⟩;have ht:(fun δ=>bd (e2 (wy false) (af 4) (af 3) δ) bD) (oδ hand j need (av hand pre) (some (.d (pr p))) none)=rt (decide (p∈av hand pre)):=aU ((au (x:=.d (pr p)) (y:=.own ((av hand pre).map pr)) rfl rfl).trans (yR _ _));unfold oB;by_cases Mu:p∈av hand pre
  ·rw [Ls Mu] at ht;refine HU ht ?_;obtain ⟨i,e1,e2⟩:=qf Mu;show qI 3 (af 4) (oδ hand j need (av hand pre) (some (.d (pr p))) none)=_;unfold qI;show bd (rt (DV.d (pr p))) _=_;rw [aE];show bd (rt (pr p)) _=_;rw [aE,if_pos (show (pr p).depth<=60 from (by decide:1<=60)),sT,e1];show rt (Out.nx _)=_;rw [jt,e2,<-hla];rfl
  ·rw [Lr Mu] at ht;refine xT ht ?_;rw [hla,List.erase_of_not_mem Mu];rfl) need [] _ (fun a ha=>ha) (by simpa using hl) ⟨none,rfl⟩
 rw [List.nil_append] at h;subst h;exact ⟨x4,e⟩
theorem rM (hand:List Tl) (j:Int) (need:List Tl) (hl:need.length<=1000):eP [.d (.list (hand.map pr)),.d (.int j),.d (.list (need.map pr))]=rt (.nwt [] ((av hand need).map pr) [.int (j-((need.length:Int)-((hand.length:Int)-((av hand need).length:Int))))]):=by
 obtain ⟨x4,e⟩:=AO hand j need hl;unfold eP;refine eF (x:=.tpo [] ((av hand need).map pr) [.int (j-((need.length:Int)-((hand.length:Int)-((av hand need).length:Int))))]) ?_;unfold rP;refine hU (δ':=oδ hand j need hand none none) (fL (x:=.new (hand.map pr)) ((cm (bj (x:=.d (.list (hand.map pr))) rfl)).trans rfl) rfl rfl) ?_;refine hU (δ':=oδ hand j need (av hand need) x4 none) (jM (xs:=need.map pr) (f9 rfl) e) ?_;refine hU (δ':=oδ hand j need (av hand need) x4 (some (.d (.int ((hand.length:Int)-((av hand need).length:Int)))))) (fL (x:=.d (.int ((hand.length:Int)-((av hand need).length:Int)))) ?_ rfl rfl) ?_
 ·exact (au (x:=.d (.int (hand.length:Int))) (y:=.d (.int ((av hand need).length:Int))) ((cm (bj (x:=.d (.list (hand.map pr))) rfl)).trans (f6 hand)) ((cm (bj (x:=.own ((av hand need).map pr)) rfl)).trans (lX _))).trans (dq _ _)
 ·refine bG ?_;unfold Bx;rw [bW (x:=.own ((av hand need).map pr)) (y:=.d (.int (j-((need.length:Int)-((hand.length:Int)-((av hand need).length:Int)))))) rfl ((au (x:=.d (.int j)) (y:=.d (.int ((need.length:Int)-((hand.length:Int)-((av hand need).length:Int))))) rfl ((au (x:=.d (.int (need.length:Int))) (y:=.d (.int ((hand.length:Int)-((av hand need).length:Int)))) ((cm (bj (x:=.d (.list (need.map pr))) rfl)).trans (f6 need)) rfl).trans (dq _ _))).trans (dq _ _)),aE];rfl
variable {j:Int}
theorem vB (C E:Addr) {m c:Int} {ps:List Tl} (hl:ps.length<=1000) (hn:nh m c ps j=true):dk C E [hs C m c,.d (.list (ps.map pr)),.d (.int j)]=rt (.d .none):=by
 have h:=G2 C m c j ps hl;rw [hn] at h;unfold dk lZ eE;rw [xT (mK (aU (aY (fW (x:=hs C m c) (y:=.d (.list (ps.map pr))) (z:=.d (.int j)) rfl rfl rfl) rfl rfl h)) rfl) rfl];rfl
theorem pM {α:Type} {f:α->D} {fe:DS->M DV} {δ:DS} {g:α->D}:∀{as:List α},(∀a∈as,∃y,fe (δ.set 0 (some (.d (f a))))=rt y/\v9 y=some (g a))->cB (aq 0) bA fe δ (as.map f)=some (as.map g)
 |[],_=>rfl
 |a::r,h=>by
  obtain ⟨y,h1,h2⟩:=h a KU;have ih:=pM (f:=f) (g:=g) (fe:=fe) (δ:=δ) (as:=r) fun b hb=>h b (KS _ hb);rw [List.map_cons,List.map_cons,cB];simp only [aq,bA,rt] at h1 ⊢;simp only [h1,h2,ih]
variable {l:By}
theorem oW {P:Program} {w:World} {CT:Addr} {n:Nat} {fm:List DV->M DV} {fo:DS->M DV} {fr:DS->M (List DV)} {δ:DS} {f:PyData->Option Int} {U:List PyData} {ys zs:List DV} {x:DV} (h1:fo δ=rt (.fz (.tb P w CT l f U))) (h2:fr δ=rt ys) (h3:args ys=some zs) (h4:zs.length+1=n) (h5:fm (.fz (.tb P w CT l f U)::zs)=rt x):kn P w CT n fm fo fr δ=rt x:=by
 unfold kn;rw [h1,aE,tq,a8,aE,h2,aE];unfold ay;rw [gD,h3];show bd (rt (DV.fz (.tb P w CT l f U)::zs)) _=_;rw [aE,if_pos (by rw [List.length_cons]; exact h4),h5];rfl
theorem GP {P:Program} {w:World} {CT:Addr} {fo fe ff:DS->M DV} {δ:DS} {f:PyData->Option Int} {U:List PyData} {t:Tl} (h1:fo δ=rt (.fz (.tb P w CT l f U))) (h2:fe δ=rt (.d (pr t))) (h3:ff δ=rt (.new [])):Fe P w CT fo fe ff δ=rt (.d (.list ((c8 l t).map wD))):=by
 unfold Fe;rw [h1,aE,tq,a8,aE,h2,aE];show bd (rt t) _=_;rw [aE,h3];rfl
noncomputable def mB (q:List Tl×Int):D:=.tuple [.list (q.1.map pr),.int q.2]
theorem JO {α:Type} (x:α) (r:List α):atI (x::r) 0=some x:=by
 unfold atI Ej;simp
structure Good (l:By):Prop where
 mem:∀t w,w∈c8 l t->t∈w
 len:∀t w,w∈c8 l t->w.length<=1000
 few:∀t,(c8 l t).length<=800000
section
variable {P:Program} {w:World} {CT:Addr} {l:By} {f:PyData->Option Int} {U:List PyData}
theorem m_ways (g:Good l) (t:Tl) (r:List Tl) (j:Int):m9 P w CT [.fz (.tb P w CT l f U),.d (.list ((t::r).map pr)),.d (.int j)]=rt (.new ((fy l (t::r) j).map mB)):=by
 unfold m9;refine eF (x:=.new ((fy l (t::r) j).map mB)) ?_;unfold CQ;refine hU (δ':=[some (.fz (.tb P w CT l f U)),some (.d (.list ((t::r).map pr))),some (.d (.int j)),some (.own ((c8 l t).map fun w=>mB (av (t::r) w,jl (t::r) j w)))]) (fL (x:=.new ((c8 l t).map fun w=>mB (av (t::r) w,jl (t::r) j w))) ?_ rfl rfl) ?_
 ·refine bb (xs:=(c8 l t).map wD) (f9 (GP (l:=l) (f:=f) (U:=U) (t:=t) rfl ((au (x:=.d (.list ((t::r).map pr))) (y:=.d (.int 0)) rfl rfl).trans (uv (JO _ _))) rfl)) (by rw [List.length_map]; exact Lp (g.few t) 0x3) ?_;refine pM fun w' hw=>⟨_,aY (n:=3) (x:=.nwt [] ((av (t::r) w').map pr) [.int (jl (t::r) j w')]) (fW (x:=.d (.list ((t::r).map pr))) (y:=.d (.int j)) (z:=.d (.list (w'.map pr))) rfl rfl rfl) rfl rfl (rM (t::r) j w' (g.len t w' hw)),rfl⟩
 ·show bt _ [some (.fz (.tb P w CT l f U)),some (.d (.list ((t::r).map pr))),some (.d (.int j)),some (.d (.list ((c8 l t).map fun w=>mB (av (t::r) w,jl (t::r) j w))))]=_;refine bG (bb (xs:=((c8 l t).map fun w=>(av (t::r) w,jl (t::r) j w)).map mB) (f9 (by show rt _=rt _; rw [List.map_map]; rfl)) (by rw [List.length_map,List.length_map]; exact Lp (g.few t) 0x3) ?_);refine (dh (f:=mB) (b:=fun q=>decide (0<=q.2)) (g:=mB) fun q _=>⟨aU ((au (x:=.d (.int q.2)) (y:=.d (.int 0)) ((au (x:=.d (mB q)) (y:=.d (.int 1)) rfl rfl).trans (a5 rfl)) rfl).trans (kH _ _)),rfl⟩).trans ?_;rfl
end
theorem ua {l:By} (g:Good l):∀(n m:Nat) (h:List Tl) (j:Int),h.length<=n->h.length<=m->LL l n h j=LL l m h j
 |n,m,[],j,_,_=>by cases n <;> cases m <;> rfl
 |0,_,t::r,j,h,_=>by simp at h
 |_+1,0,t::r,j,_,h=>by simp at h
 |n+1,m+1,t::r,j,h1,h2=>by
  rw [List.length_cons] at h1 h2;show AL ((t.1+LL l n r j)::(fy l (t::r) j).map fun q=>LL l n q.1 q.2)=AL ((t.1+LL l m r j)::(fy l (t::r) j).map fun q=>LL l m q.1 q.2);rw [ua g n m r j 0x1 0x1];congr 2;refine List.map_congr_left fun q hq=>?_;obtain ⟨w,hw,rfl,_⟩:=oC hq;have:=iT (r:=r) (g.mem t w hw);exact ua g n m _ _ (by show (av (t::r) w).length<=n; lia) (by show (av (t::r) w).length<=m; lia)
noncomputable def fF (l:By) (h:List Tl) (j:Int):Int:=LL l h.length h j
theorem yW (l:By) (j:Int):fF l [] j=0:=rfl
theorem pT (g:Good l) (t:Tl) (r:List Tl) (j:Int):fF l (t::r) j=AL ((t.1+fF l r j)::(fy l (t::r) j).map fun q=>fF l q.1 q.2):=by
 show AL ((t.1+LL l r.length r j)::(fy l (t::r) j).map fun q=>LL l r.length q.1 q.2)=_;congr 2;refine List.map_congr_left fun q hq=>?_;obtain ⟨w,hw,rfl,_⟩:=oC hq;exact ua g _ _ _ _ (iT (g.mem t w hw)) (K2 _)
noncomputable def kD (h:List Tl) (j:Int):D:=.tuple [.tuple (h.map pr),.int j]
noncomputable def fK (l:By) (k:D):Option Int:=match k with
 |.tuple [.tuple ts,.int j]=>(eW ts).map fun h=>fF l h j
 |_=>none
open Classical in
open Classical in
section
variable {P:Program} {w:World} {CT:Addr} {l:By} {f:PyData->Option Int} {U:List PyData}
end
noncomputable def qH (m c:Nat) (h:List Tl) (j:Int):List Ml:=(uh m c).filter fun y=>decide (0<=jl h j (tl y))
noncomputable def xD (y:Ml):D:=.tuple [md y,.list ((tl y).map pr)]
variable {m c:Nat}
theorem sP (hm:m<=13) (h4:c<=4):(uh m c).length<=1000:=by
 have h1:(uh m c).length=(cT m c).length:=by rw [<-tY,List.length_map]
 have h2:=jN (oG c) m;have h3:=nJ m c hm;unfold cT at h1;rw [List.length_append] at h1;have:169*c<=169*4:=Nat.mul_le_mul_left _ h4;lia
theorem pZ (C E:Addr) (hm:m<=13) (h1:1<=c) (h4:c<=4) (h:List Tl) (j:Int):bU C E [hs C m c,.d (.list (h.map pr)),.d (.int j)]=rt (.new ((qH m c h j).map xD)):=by
 have hl:=sP hm h4;unfold bU;refine eF (x:=.new ((qH m c h j).map xD)) ?_;unfold iF;refine hU (δ':=[some (hs C m c),some (.d (.list (h.map pr))),some (.d (.int j)),some (.own ((uh m c).map xD))]) (fL (x:=.new ((uh m c).map xD)) ?_ rfl rfl) ?_
 ·refine bb (xs:=(uh m c).map md) (sG (aY (n:=1) (x:=.new ((uh m c).map md)) (bj (x:=hs C m c) rfl) rfl rfl (by rw [tY]; exact Dy C m c hm h1 h4))) (by rw [List.length_map]; lia) ?_;refine pM fun y hy=>?_;obtain ⟨ok,oy⟩:=Cd hm h1 h4 hy;have ht:=ok.tiles C E;rw [if_pos oy] at ht;refine ⟨.d (xD y),?_,rfl⟩;unfold aZ;rw [bW (x:=.d (md y)) (y:=.new ((tl y).map pr)) rfl (gH (n:=2) (bW (x:=hs C m c) (y:=.d (md y)) rfl rfl) rfl rfl ht)];rfl
 ·show bt _ [some (hs C m c),some (.d (.list (h.map pr))),some (.d (.int j)),some (.d (.list ((uh m c).map xD)))]=_;refine bG (bb (xs:=(uh m c).map xD) (f9 rfl) (by rw [List.length_map]; lia) ?_);refine dh (f:=xD) (b:=fun y=>decide (0<=jl h j (tl y))) (g:=xD) fun y hy=>⟨?_,rfl⟩;have hw:(tl y).length<=1000:=by
   have:=(sM hm h1 h4 (w:=tl y) (Lf.mpr ⟨y,hy,rfl⟩)).2;lia
  refine aU ((au (x:=.d (.int (jl h j (tl y)))) (y:=.d (.int 0)) ?_ rfl).trans (kH _ _));refine (au (x:=.d (mB (av h (tl y),jl h j (tl y)))) (y:=.d (.int 1)) ?_ rfl).trans (a5 rfl);unfold GD;rw [aY (n:=3) (x:=.nwt [] ((av h (tl y)).map pr) [.int (jl h j (tl y))]) (fW (x:=.d (.list (h.map pr))) (y:=.d (.int j)) (z:=.d (.list ((tl y).map pr))) rfl rfl ((au (x:=.d (xD y)) (y:=.d (.int 1)) rfl rfl).trans (a5 rfl))) rfl rfl (rM h j (tl y) hw)];rfl
noncomputable def rp (l:By) (goal:Int) (w:List Tl):Nat->List Tl->Int->List Tl×Int×Nat
 |0,r,j=>(r,j,0)
 |n+1,r,j=>if 0<=jl r j w/\fF l (av r w) (jl r j w)=goal then ((rp l goal w n (av r w) (jl r j w)).1,(rp l goal w n (av r w) (jl r j w)).2.1,(rp l goal w n (av r w) (jl r j w)).2.2+1) else (r,j,0)
noncomputable def xQ (l:By) (goal:Int):List Ml->List Tl->Int->List Ml
 |[],_,_=>[]
 |y::ys,r,j=>List.replicate (rp l goal (tl y) 100 r j).2.2 y++xQ l goal ys (rp l goal (tl y) 100 r j).1 (rp l goal (tl y) 100 r j).2.1
section
variable {P:Program} {w:World} {CT:Addr} {l:By} {f:PyData->Option Int} {U:List PyData} {ml:List DV->M DV}
theorem iX {r y:List Tl} (h0:0<=jl r j y) (hj:j<=2) (hy:3<=y.length):(av r y).length<r.length:=by
 have:=kf y r;unfold jl at h0;lia
end
theorem Cs (p q:Tl):le p q=true↔v3 p q:=by
 obtain ⟨a,b⟩:=p;obtain ⟨c,d⟩:=q;show (!(HT.lexLt [c,d] [a,b]))=true↔v3 (a,b) (c,d);unfold v3;simp only [HT.lexLt];by_cases h:c=a
 ·subst h;by_cases h2:d=b
  ·subst h2; simp
  ·simp [h2]
 ·simp [h]; lia
theorem xB:∀{ps:List Tl},iu ps=true->ps.Pairwise v3
 |[],_=>List.Pairwise.nil
 |[a],_=>List.pairwise_singleton _ _
 |a::b::r,h=>by
  unfold iu at h;rw [show (a::b::r).length-1=(b::r).length from rfl,List.length_cons,List.range_succ_eq_map,List.all_cons,Bool.and_eq_true,List.all_map] at h;have h2:iu (b::r)=true:=h.2;have ih:=xB h2;have Nj:v3 a b:=(Cs a b).mp h.1;refine Ll.mpr ⟨fun x hx=>?_,ih⟩;rcases Lc.mp hx with e|hx
  ·rw [e]; exact Nj
  ·have:=(Ll.mp ih).1 x hx;unfold v3 at *; lia
theorem Bc:∀{ps:List Tl},ps.Pairwise v3->iu ps=true
 |[],_=>rfl
 |[a],_=>rfl
 |a::b::r,h=>by
  rw [List.pairwise_cons] at h;unfold iu;rw [show (a::b::r).length-1=(b::r).length from rfl,List.length_cons,List.range_succ_eq_map,List.all_cons,Bool.and_eq_true,List.all_map];exact ⟨(Cs a b).mpr (h.1 b KU),Bc h.2⟩
structure Hand (m c:Nat) (h:List Tl) (j:Int):Prop where
 len:h.length<=12
 j0:0<=j
 j2:j<=2
 tile:∀p∈h,bh m c p=true
 two:∀p,gr h p<=2
 ord:h.Pairwise v3
variable {h:List Tl}
theorem Ca:nh m c h j=true↔(h.length<=12/\0<=j/\j<=2/\(∀p∈h,bh m c p=true/\gr h p<=2)/\iu h=true):=by
 unfold nh jok tok;simp only [Bool.and_eq_true,decide_eq_true_eq,List.all_map,List.all_eq_true,Function.comp,id];constructor
 ·rintro ⟨⟨⟨h1,h2,h3⟩,h4⟩,h5⟩; exact ⟨h1,h2,h3,h4,h5⟩
 ·rintro ⟨h1,h2,h3,h4,h5⟩; exact ⟨⟨⟨h1,h2,h3⟩,h4⟩,h5⟩
theorem Hand.ok (H:Hand m c h j):nh m c h j=true:=Ca.mpr ⟨H.len,H.j0,H.j2,fun p hp=>⟨H.tile p hp,H.two p⟩,Bc H.ord⟩
theorem Hand.pos (H:Hand m c h j):∀p∈h,0<=p.1:=fun p hp=>by
 have:=H.tile p hp;unfold bh at this;simp at this;lia
noncomputable def CY:List Tl->List (List Tl)
 |[]=>[[]]
 |x::r=>CY r++(CY r).map (x::·)
noncomputable def UK (h:List Tl):List D:=(CY h).map (fun a=>kD a 0)++((CY h).map (fun a=>kD a 1)++(CY h).map fun a=>kD a 2)
theorem zd {w:List Tl}:∀(ts:List Tl) (l:By) (n:Nat),uO l n->uO (ts.foldl (fun l t=>fu l t w) l) (n+ts.length)
 |[],l,n,h=>h
 |t::ts,l,n,h=>by
  have:=zd (w:=w) ts (fu l t w) (n+1) (h.add t w);rw [List.foldl_cons,List.length_cons,show n+(ts.length+1)=n+1+ts.length by lia];exact this
theorem uO.mono {n k:Nat} (h:uO l n) (hk:n<=k):uO l k:=⟨Lp h.1 hk,fun p hp=>Lp (h.2 p hp) hk⟩
theorem BG:∀(LF:List (List Tl)) (l:By) (n:Nat),uO l n->uO (LF.foldl iJ l) (n+3*LF.length)
 |[],l,n,h=>h
 |w::LF,l,n,h=>by
  have h1:uO (iJ l w) (n+3):=uO.mono (zd (w.take 3) l n h) (by rw [List.length_take]; lia);have:=BG LF (iJ l w) (n+3) h1;rw [List.foldl_cons,List.length_cons,show n+3*(LF.length+1)=n+3+3*LF.length by lia];exact this
theorem E3 {LF:List (List Tl)} (hl:LF.length<=1000) (hw:∀w∈LF,w.length<=1000):Good (lQ LF):=by
 refine ⟨fun t w h=>?_,fun t w h=>hw w ((jZ w t LF).mp h).1,fun t=>?_⟩
 ·exact (List.take_sublist 3 w).subset ((jZ w t LF).mp h).2
 ·have:=BG LF [] 0 ⟨K2 _,fun _ h=>(nomatch h)⟩;unfold c8;cases e:(lQ LF).find? fun x=>decide (x.1=t) with
  |none=>exact Lo _
  |some p=>
   have h2:=this.2 p (List.mem_of_find?_eq_some e);show p.2.length<=800000;lia
noncomputable def tV (m c:Nat) (h:List Tl) (j:Int):By:=lQ ((qH m c h j).map tl)
theorem BC (hm:m<=13) (h4:c<=4) (h:List Tl) (j:Int):(qH m c h j).length<=1000:=Lp (List.length_filter_le _ _) (sP hm h4)
theorem pk {y:Ml} (hy:y∈qH m c h j):y∈uh m c/\0<=jl h j (tl y):=by
 obtain ⟨h1,h2⟩:=Li.mp hy;exact ⟨h1,by simpa using h2⟩
theorem t4 (hm:m<=13) (h1:1<=c) (h4:c<=4) (h:List Tl) (j:Int):Good (tV m c h j):=
 E3 (by rw [List.length_map]; exact BC hm h4 h j) fun w hw=>by
  obtain ⟨y,hy,rfl⟩:=Lf.mp hw;have:=(sM hm h1 h4 (w:=tl y) (Lf.mpr ⟨y,(pk hy).1,rfl⟩)).2;lia
theorem sk:∀ys:List Ml,gO (ys.map xD)=some (ys.map tl)
 |[]=>rfl
 |y::ys=>by
  rw [List.map_cons,gO,sk ys];have:CW (xD y)=some (tl y):=jr (tl y);rw [this]; rfl
noncomputable def GW (m c:Nat) (h:List Tl) (j:Int):Int:=bf h-fF (tV m c h j) h j
noncomputable def BL (m c:Nat) (h:List Tl) (j:Int):List Ml:=xQ (tV m c h j) (fF (tV m c h j) h j) (qH m c h j) h j
section
variable {P:Program} {w:World} {C CT Eh El:Addr}
end
theorem EV {Ws:List (List Tl)} (p:Play (GN m c) h j Ws):Play ((qH m c h j).map tl) h j Ws:=by
 refine ⟨fun w hw=>?_,p.jok⟩;obtain ⟨y,hy,rfl⟩:=Lf.mp (p.mem w hw);refine Lf.mpr ⟨y,Li.mpr ⟨hy,?_⟩,rfl⟩;obtain ⟨A,B,rfl⟩:=List.append_of_mem hw;have pw:(A++tl y::B).flatten.Perm (tl y++(A++B).flatten):=by
  rw [List.flatten_append,List.flatten_cons,List.flatten_append,<-List.append_assoc,<-List.append_assoc];exact (List.perm_append_comm).append_right _
 have:=p.jok;rw [uz pw] at this;have:=Ly this (tZ _ _ _ _);simpa using this
noncomputable def gF (xs:List DV):PyData->Option Int:=match xs with
 |[.ob _ [(_,.int m),(_,.int c)],.d (.list ts),.d (.int j)]=>match eW ts with
  |some h=>fK (tV m.toNat c.toNat h j)
  |none=>fun _=>none
 |_=>fun _=>none
noncomputable def gU (xs:List DV):List PyData:=match xs with
 |[_,.d (.list ts),_]=>match eW ts with
  |some h=>UK h
  |none=>[]
 |_=>[]
noncomputable def yL (xs:List DV):(PyData->Option Int)×List PyData:=(gF xs,gU xs)
noncomputable def dM (P:Program) (w:World) (C CT Eh El:Addr) (mc:List DV->M DV) (xs:List DV):M DV:=lB P w C CT Eh El (yL xs).1 (yL xs).2 mc xs
noncomputable def cf (P:Program) (w:World) (C CT Eh El:Addr) (mc:List DV->M DV) (xs:List DV):M DV:=nG P w C CT Eh El (yL xs).1 (yL xs).2 mc xs
theorem pG (P:Program) (w:World) (C CT Eh El:Addr) (ml:List DV->M DV):dM P w C CT Eh El ml=fun xs=>eE ["house", "hand", "jokers"] (jw P w C CT Eh El (yL xs).1 (yL xs).2 ml) xs:=by
 funext xs;unfold dM lB;rfl
theorem qL (P:Program) (w:World) (C CT Eh El:Addr) (ml:List DV->M DV):cf P w C CT Eh El ml=fun xs=>eE ["house", "hand", "jokers", "table", "room"] (kq P w C CT Eh El (yL xs).1 (yL xs).2 ml) xs:=by
 funext xs;unfold cf nG;rfl
end LW
namespace L3
open PySem PySem.Spec L2
theorem Kn {P:Program} {w:World} {K:Lb} {mg:Str->Option Value} {base:Heap} {CX:Ai} {k n:Nat} {f:Addr} {fd:FuncData} {ps:List Str} {G:Type} {fm:G->List DV->M DV} (ch:List DV->G) (h:∀g,FnOk P w K mg base CX k f fd ps (IB n (fm g))):FnOk P w K mg base CX k f fd ps (IB n fun xs=>fm (ch xs) xs):=
 ⟨fun vs H Q E ⟨h1,O,xs,r,h2,h3,h4,h5⟩=>(h (ch xs)).len vs H Q E ⟨h1,O,xs,r,h2,h3,h4,h5⟩,fun A outer s H args us vs Q E hr he hb hv ⟨h1,O,xs,r,h2,h3,h4,h5⟩=>(h (ch xs)).run A outer s H args us vs Q E hr he hb hv ⟨h1,O,xs,r,h2,h3,h4,h5⟩⟩
theorem HasM.imp {P:Program} {w:World} {K:Lb} {mg:Str->Option Value} {base:Heap} {j k:Nat} {C:Addr} {m:Str} {n:Nat} {fm fm':List DV->M DV} (F:HasM P w K mg base j C m n fm) (hj:j<=k) (h:∀xs x,fm' xs=some (.ok x)->fm xs=some (.ok x)):HasM P w K mg base k C m n fm':=by
 obtain ⟨⟨fn,fd,ps,h1,h2,h3⟩,no⟩:=F;exact ⟨⟨fn,fd,ps,(h1.imp fun vs H Q E ⟨a,O,xs,x,b,c,d,e⟩=>⟨a,O,xs,x,b,c,h xs x d,e⟩).mono hj,h2,h3⟩,no⟩
end L3
namespace LW
open PySem PySem.Spec L2 L3
theorem oZ (ps:List Tl):∃qs:List Tl,Ax (ps.map pr)=qs.map pr/\qs.Perm ps/\qs.Pairwise v3:=by
 obtain ⟨qs,hq,hl⟩:=yE ps;have Nn:(qs.map pr).Perm (ps.map pr):=by rw [<-hq]; exact i9 _
 refine ⟨qs,hq,?_,xB (ya (by rw [<-hq]; exact oK _))⟩;have:=Nn.map (fun d=>match d with|.tuple [.int a,.int b]=>((a,b):Tl)|_=>(0,0));rw [List.map_map,List.map_map] at this;have e:((fun d=>match d with|.tuple [.int a,.int b]=>((a,b):Tl)|_=>(0,0))∘pr)=id:=rfl;rw [e,List.map_id,List.map_id] at this;exact this
variable {x:DV}
theorem ni {fa:DS->M DV} {δ:DS} {ps qs:List Tl} (h:fa δ=rt x) (hx:k7 x=some (ps.map pr)) (hl:ps.length<64) (hq:Ax (ps.map pr)=qs.map pr):aN lD (aa fa ai) δ=rt (.new (qs.map pr)):=by
 rw [cm (bj h),xW hx hl,hq]
def l8 (h:List Tl):Prop:=∀p∈h,1<=p.1
variable {h h':List Tl}
theorem l8.sub (p:l8 h) (s:h'.Sublist h):l8 h':=fun q hq=>p q (s.subset hq)
variable {l:By} {t:Tl} {r:List Tl} {j:Int}
theorem nF (g:Good l) {q:List Tl×Int} (h:q∈fy l (t::r) j):q.1.Sublist (t::r)/\q.1.length<=r.length:=by
 obtain ⟨w,hw,rfl,h0⟩:=oC h;exact ⟨cZ _ _,iT (g.mem t w hw)⟩
theorem gL {l:By} (g:Good l):∀(n:Nat) (h:List Tl) (j:Int),h.length<=n->l8 h->0<=fF l h j
 |_,[],j,_,_=>by rw [yW]; exact Int.le_refl _
 |0,t::r,_,h,_=>by simp at h
 |n+1,t::r,j,hn,hp=>by
  rw [List.length_cons] at hn;rw [pT g];have hm:=oM (ns:=(t.1+fF l r j)::(fy l (t::r) j).map fun q=>fF l q.1 q.2) 0x4;rcases Lc.mp hm with e|e
  ·rw [e];have:=gL g n r j 0x1 (hp.sub (List.sublist_cons_self t r));have:=hp t KU;lia
  ·obtain ⟨q,hq,e⟩:=Lf.mp e;rw [<-e];have k:=nF g hq;exact gL g n q.1 q.2 0x1 (hp.sub k.1)
theorem wc (g:Good l) (hp:l8 (t::r)):fF l (t::r) j=0↔∃q∈fy l (t::r) j,fF l q.1 q.2=0:=by
 rw [pT g];constructor
 ·intro e;have hm:=oM (ns:=(t.1+fF l r j)::(fy l (t::r) j).map fun q=>fF l q.1 q.2) 0x4;rw [e] at hm;rcases Lc.mp hm with e|e
  ·have:=gL g _ r j (K2 _) (hp.sub (List.sublist_cons_self t r));have:=hp t KU;lia
  ·obtain ⟨q,hq,e⟩:=Lf.mp e;exact ⟨q,hq,e⟩
 ·rintro ⟨q,hq,e⟩;have h1:=tX (ns:=(t.1+fF l r j)::(fy l (t::r) j).map fun q=>fF l q.1 q.2) (a:=0) (KS _ (Lf.mpr ⟨q,hq,e⟩));have h2:=gL g _ (t::r) j (K2 _) hp;rw [pT g] at h2;lia
open Classical in
noncomputable def kN (P:Program) (w:World) (CT:Addr) (n:Nat) (xs:List DV):M DV:=match xs with
 |[x,.d (.list ts),.d (.int j)]=>bd (op (tP P w CT x)) fun q=>bd (op (eW ts)) fun h=>if Good q.1/\l8 h/\h.length<=n then rt (.d (.bool (decide (fF q.1 h j=0)))) else none
 |_=>none
section
variable {P:Program} {w:World} {CT:Addr} {l:By} {f:PyData->Option Int} {U:List PyData}
variable {n:Nat}
theorem C8 (g:Good l) (hp:l8 h) (hn:h.length<=n):kN P w CT n [.fz (.tb P w CT l f U),.d (.list (h.map pr)),.d (.int j)]=rt (.d (.bool (decide (fF l h j=0)))):=by
 show bd (op (tP P w CT _)) _=_;rw [tq,a8,aE];show bd (op (eW (h.map pr))) _=_;rw [show eW (h.map pr)=some h from jr h,a8,aE];exact if_pos ⟨g,hp,hn⟩
variable {xs:List DV}
theorem FP (e:kN P w CT n xs=some (.ok x)):∃l f U h j,xs=[.fz (.tb P w CT l f U),.d (.list (h.map pr)),.d (.int j)]/\Good l/\l8 h/\h.length<=n/\x=.d (.bool (decide (fF l h j=0))):=by
 unfold kN at e;split at e
 ·rename_i y ts j;obtain ⟨⟨l,f,U⟩,e0,e1⟩:=bQ e;have hy:=ng e0;subst hy;obtain ⟨h,e2,e3⟩:=bQ e1;have ht:=nu e2;subst ht;split at e3
  ·rename_i c;cases e3;exact ⟨l,f,U,h,j,rfl,c.1,c.2.1,c.2.2,rfl⟩
  ·cases e3
 ·cases e
noncomputable def cδ (P:Program) (w:World) (CT:Addr) (l:By) (f:PyData->Option Int) (U:List PyData) (h:List Tl) (j:Int) (x4 x5:Option DV):DS:=[some (.fz (.tb P w CT l f U)),some (.d (.list (h.map pr))),some (.d (.int j)),x4,x5]
theorem yk {mc:List DV->M DV} {h:List Tl} {j:Int} (b:List Tl×Int->Bool):∀(qs:List (List Tl×Int)) (x4 x5:Option DV),(∀q∈qs,mc [.fz (.tb P w CT l f U),.d (.list (q.1.map pr)),.d (.int q.2)]=rt (.d (.bool (b q)))) ->
  ((∃q∈qs,b q=true)/\dU (nq 2 (dE (aq 3) (dE (aq 4) n4))) (eQ (fun δ=>bd ((kn P w CT 3 mc (af 0) (aa (af 3) (aa (af 4) ai))) δ) bD) (bt (eC (.bool true))) bK) (qs.map mB) (cδ P w CT l f U h j x4 x5)=rt (.rt (.d (.bool true)))) \/
  ((∀q∈qs,b q=false)/\∃y4 y5,dU (nq 2 (dE (aq 3) (dE (aq 4) n4))) (eQ (fun δ=>bd ((kn P w CT 3 mc (af 0) (aa (af 3) (aa (af 4) ai))) δ) bD) (bt (eC (.bool true))) bK) (qs.map mB) (cδ P w CT l f U h j x4 x5)=rt (.nx (cδ P w CT l f U h j y4 y5)))
 |[],x4,x5,_=>Or.inr ⟨fun q hq=>(nomatch hq),x4,x5,rfl⟩
 |q::qs,x4,x5,hq=>by
  have ih:=yk (h:=h) (j:=j) b qs (some (.d (.list (q.1.map pr)))) (some (.d (.int q.2))) (fun z hz=>hq z (KS _ hz));have em:kn P w CT 3 mc (af 0) (aa (af 3) (aa (af 4) ai)) (cδ P w CT l f U h j (some (.d (.list (q.1.map pr)))) (some (.d (.int q.2))))=rt (.d (.bool (b q))):=oW (l:=l) (f:=f) (U:=U) (ys:=[.d (.list (q.1.map pr)),.d (.int q.2)]) rfl (bW rfl rfl) rfl rfl (hq q KU);have e0:nq 2 (dE (aq 3) (dE (aq 4) n4)) (mB q) (cδ P w CT l f U h j x4 x5)=some (cδ P w CT l f U h j (some (.d (.list (q.1.map pr)))) (some (.d (.int q.2)))):=rfl;rw [List.map_cons,dU,e0,a8,aE,jz (aU em)];cases hb:b q with
  |true=>
   refine Or.inl ⟨⟨q,KU,hb⟩,?_⟩;rfl
  |false=>
   rcases ih with ⟨⟨z,hz,e⟩,ih⟩|⟨hz,y4,y5,ih⟩
   ·exact Or.inl ⟨⟨z,KS _ hz,e⟩,ih⟩
   ·exact Or.inr ⟨fun z hz'=>(Lc.mp hz').elim (fun e=>e▸hb) (hz z),y4,y5,ih⟩
theorem wj {mw mc:List DV->M DV} (j:Int):gM P w CT mw mc [x,.d (.list []),.d (.int j)]=rt (.d (.bool true)):=by
 unfold gM;refine eF (x:=.d (.bool true)) ?_;unfold pE;rfl
theorem zN {mc:List DV->M DV} (g:Good l) (hp:l8 (t::r)) (h2:∀q∈fy l (t::r) j,mc [.fz (.tb P w CT l f U),.d (.list (q.1.map pr)),.d (.int q.2)]=rt (.d (.bool (decide (fF l q.1 q.2=0))))):gM P w CT (m9 P w CT) mc [.fz (.tb P w CT l f U),.d (.list ((t::r).map pr)),.d (.int j)]=rt (.d (.bool (decide (fF l (t::r) j=0)))):=by
 unfold gM;refine eF (x:=.d (.bool (decide (fF l (t::r) j=0)))) ?_;unfold pE;have ei:iw (kn P w CT 3 (m9 P w CT) (af 0) (aa (af 1) (aa (af 2) ai))) (cδ P w CT l f U (t::r) j none none)=rt ((fy l (t::r) j).map mB):=sG (oW (l:=l) (f:=f) (U:=U) (ys:=[.d (.list ((t::r).map pr)),.d (.int j)]) rfl (bW rfl rfl) rfl rfl (m_ways g t r j));refine hU (δ':=cδ P w CT l f U (t::r) j none none) rfl ?_;rcases yk (P:=P) (w:=w) (CT:=CT) (l:=l) (f:=f) (U:=U) (mc:=mc) (h:=t::r) (j:=j) (fun q=>decide (fF l q.1 q.2=0)) (fy l (t::r) j) none none h2 with ⟨⟨q,hq,e⟩,ee⟩|⟨no,y4,y5,ee⟩
 ·have:fF l (t::r) j=0:=(wc g hp).mpr ⟨q,hq,of_decide_eq_true e⟩;rw [Ls this];unfold bH;rw [jM ei ee,aE];rfl
 ·have:¬fF l (t::r) j=0:=fun e=>by
   obtain ⟨q,hq,e⟩:=(wc g hp).mp e;exact of_decide_eq_false (no q hq) e
  rw [Lr this];refine hU (jM ei ee) ?_;rfl
theorem DZ (e:kN P w CT (n+1) xs=some (.ok x)):gM P w CT (m9 P w CT) (kN P w CT n) xs=some (.ok x):=by
 obtain ⟨l,f,U,h,j,rfl,g,hp,hl,rfl⟩:=FP e;cases h with
 |nil=>exact wj j
 |cons t r=>
  rw [List.length_cons] at hl;exact zN g hp fun q hq=>C8 g (hp.sub (nF g hq).1) (by have:=(nF g hq).2; lia)
theorem ET {mw:List DV->M DV} (e:kN P w CT 0 xs=some (.ok x)):gM P w CT mw (fun _=>none) xs=some (.ok x):=by
 obtain ⟨l,f,U,h,j,rfl,g,hp,hl,rfl⟩:=FP e;cases h with
 |nil=>exact wj j
 |cons t r=>simp at hl
end
noncomputable def fO (c n0:Nat):List Tl:=(List.range c).map fun (x:Nat)=>(1+(n0:Int),(x:Int))
noncomputable def iM (m c:Nat):List Tl:=(List.range m).flatMap (fO c)
variable {m c:Nat}
theorem v7:t∈iM m c↔bh m c t=true:=by
 unfold iM fO bh;simp only [List.mem_flatMap,List.mem_map,List.mem_range,Bool.and_eq_true,decide_eq_true_eq];constructor
 ·rintro ⟨a,ha,x,hx,rfl⟩;simp only;lia
 ·rintro ⟨⟨h1,h2⟩,h3,h4⟩;refine ⟨(t.1-1).toNat,0x1,t.2.toNat,0x1,?_⟩;refine Prod.ext ?_ ?_ <;> simp only <;> lia
noncomputable def aB (C:Addr):DS->M Out:=(nI 1 (aK 1 [2] (lx (aa (ft C "colours" (af 0)) ai)) (aq 0) bA (aZ (aa (af 1) (aa (af 0) ai)))))
theorem Dt (C:Addr) (m c:Nat) (h4:c<=4) (n0:Nat) (base:List D) (hb:base.length<=1000):aB C [some (hs C m c),some (.own base),some (.d (.int (1+(n0:Int))))]=rt (.nx [some (hs C m c),some (.own (base++(fO c n0).map pr)),some (.d (.int (1+(n0:Int))))]):=by
 have c1:cB (aq 0) bA (aZ (aa (af 1) (aa (af 0) ai))) (cj 1 [2] [some (hs C m c),some (.own base),some (.d (.int (1+(n0:Int))))]) (cH 0 c)=some ((fO c n0).map pr):=by
  unfold fO cH;rw [List.map_map];refine cK fun k hk=>?_;unfold aZ;rw [bW (x:=.d (.int (1+(n0:Int)))) (y:=.d (.int (0+(k:Int)))) rfl rfl];show rt (DV.d (PyData.tuple [.int (1+(n0:Int)),.int (0+(k:Int))]))=_;rw [Int.zero_add];rfl
 have e1:aK 1 [2] (lx (aa (ft C "colours" (af 0)) ai)) (aq 0) bA (aZ (aa (af 1) (aa (af 0) ai))) [some (hs C m c),some (.own base),some (.d (.int (1+(n0:Int))))]=rt (.new ((fO c n0).map pr)):=
  bb (fA (bj (gm C m c)) 0x1 0x1) (by rw [show (c:Int).toNat=c by lia]; unfold cH; rw [List.length_map,List.length_range]; lia) (by rw [show (c:Int).toNat=c by lia]; exact c1)
 unfold aB;rw [wI (xs:=base) rfl e1 (by unfold fO; simp only [List.length_map,List.length_range]; lia)];rfl
theorem vc (C:Addr) (m c:Nat) (hm:m<=13) (h4:c<=4):fS C [hs C m c]=rt (.new ((iM m c).map pr)):=by
 unfold fS nM eE;have hd:mS ["house", "found", "number"] [hs C m c]=[some (hs C m c),none,none]:=rfl;rw [hd];have s2:aR 1 (bV ai) [some (hs C m c),none,none]=rt (.nx [some (hs C m c),some (.own []),none]):=rfl;rw [cg s2];obtain ⟨δ',e,y3,hδ⟩:=gd (f:=fun (k:Nat)=>PyData.int (1+(k:Int))) (i:=2) (N:=m) (B:=aB C) (all:=List.range m)
  (fun pre δ=>∃y3,δ=[some (hs C m c),some (.own (pre.flatMap fun a=>(fO c a).map pr)),y3])
  (fun pre a δ ha hp ⟨y3,hδ⟩=>by
   subst hδ;have hl:=c6 (g:=fun a=>(fO c a).map pr) (k:=5) (fun a=>by unfold fO; simp only [List.length_map,List.length_range]; lia) pre;refine ⟨_,Dt C m c h4 a (pre.flatMap fun a=>(fO c a).map pr) 0x1,some (.d (.int (1+(a:Int)))),?_⟩;rw [List.flatMap_append,show [a].flatMap (fun a=>(fO c a).map pr)=(fO c a).map pr by simp])
  (List.range m) [] [some (hs C m c),some (.own []),none] (fun _ h=>h) 0x4 ⟨none,0x4⟩
 have fl:e2 aw (ft C "most" (af 0)) (eC (.int 1)) [some (hs C m c),some (.own []),none]=rt (.d (.int ((m:Int)+1))):=(au (i8 C m c) rfl).trans (bp _ _);have ea:(iM m c).map pr=(List.range m).flatMap fun a=>(fO c a).map pr:=by unfold iM; rw [List.map_flatMap]
 have s3:b9 (k8 (aa (eC (.int 1)) (aa (e2 aw (ft C "most" (af 0)) (eC (.int 1))) ai))) (aq 2) (aB C) [some (hs C m c),some (.own []),none]=rt (.nx [some (hs C m c),some (.own ((iM m c).map pr)),y3]):=by
  unfold b9;rw [gN (bW (x:=.d (.int 1)) rfl fl) 0x1 0x1 0x1 0x1,aE,show ((m:Int)+1-1).toNat=m by lia];unfold cH;rw [e,hδ,ea];rfl
 rw [show (nI 1 (aK 1 [2] (lx (aa (ft C "colours" (af 0)) ai)) (aq 0) bA (aZ (aa (af 1) (aa (af 0) ai)))))=aB C from rfl];rw [cg s3,bG (x:=.own ((iM m c).map pr)) rfl];rfl
noncomputable def kW (ps:List Tl):List Tl:=(oZ ps).choose
theorem xF (ps:List Tl):Ax (ps.map pr)=(kW ps).map pr:=(oZ ps).choose_spec.1
theorem gP (ps:List Tl):(kW ps).Perm ps:=(oZ ps).choose_spec.2.1
theorem sU (ps:List Tl):(kW ps).Pairwise v3:=(oZ ps).choose_spec.2.2
theorem Hand.one (H:Hand m c h j):l8 h:=fun p hp=>by
 have:=H.tile p hp;unfold bh at this;simp only [Bool.and_eq_true,decide_eq_true_eq] at this;exact this.1.1
noncomputable def GO (m c:Nat) (h:List Tl) (j:Int):Bool:=decide (fF (tV m c h j) h j=0)
section
variable {P:Program} {w:World} {C CT Eh El:Addr}
theorem CK (hm:m<=13) (h4:c<=4) {f:PyData->Option Int} {U:List PyData} (h:List Tl) (j:Int) (hx:v9 x=some (.list ((qH m c h j).map xD))):GZ P w CT f U [x]=rt (.fz (.tb P w CT (tV m c h j) f U)):=by
 unfold GZ;simp only [hx];rw [sk,a8,aE,if_pos (by rw [List.length_map]; exact BC hm h4 h j)];rfl
theorem vC (hm:m<=13) (h1:1<=c) (h4:c<=4) (H:Hand m c h j):dM P w C CT Eh El (kN P w CT 12) [hs C m c,.d (.list (h.map pr)),.d (.int j)]=rt (.d (.bool (GO m c h j))):=by
 have hl:h.length<=1000:=by have:=H.len; lia
 unfold dM lB;generalize (yL [hs C m c,.d (.list (h.map pr)),.d (.int j)]).1=f;generalize (yL [hs C m c,.d (.list (h.map pr)),.d (.int j)]).2=U;refine eF (x:=.d (.bool (GO m c h j))) ?_;unfold jw;refine hU (δ':=[some (hs C m c),some (.d (.list (h.map pr))),some (.d (.int j))]) (yA (x:=.d .none) (gH (n:=3) (fW (x:=hs C m c) (y:=.d (.list (h.map pr))) (z:=.d (.int j)) rfl rfl rfl) rfl rfl (vB C Eh hl H.ok))) ?_;refine bG (oW (l:=tV m c h j) (f:=f) (U:=U) (ys:=[.d (.list (h.map pr)),.d (.int j)]) ?_ (bW rfl rfl) rfl rfl (C8 (t4 hm h1 h4 h j) H.one H.len));exact (cm (bj (x:=.new ((qH m c h j).map xD)) (gH (n:=3) (fW (x:=hs C m c) (y:=.d (.list (h.map pr))) (z:=.d (.int j)) rfl rfl rfl) rfl rfl (pZ C El hm h1 h4 h j)))).trans (CK hm h4 h j rfl)
noncomputable def HE (m c:Nat) (h:List Tl) (j:Int):List Tl:=if h.length=12 then [] else ((iM m c).filter fun t=>decide (gr h t<2)).filter fun t=>decide (fF (tV m c h (j+1)) (kW (h++[t])) j=0)
theorem o7 (hm:m<=13) (h4:c<=4):(iM m c).length<=1000:=by
 have hl:=c6 (g:=fun a=>(fO c a).map pr) (k:=4) (fun a=>by unfold fO; simp only [List.length_map,List.length_range]; lia) (List.range m);have:((iM m c).map pr).length=((List.range m).flatMap fun a=>(fO c a).map pr).length:=by unfold iM; rw [List.map_flatMap]
 rw [List.length_map] at this;rw [List.length_range] at hl;lia
theorem wZ (hm:m<=13) (h1:1<=c) (h4:c<=4) (H:Hand m c h j):cf P w C CT Eh El (kN P w CT 12) [hs C m c,.d (.list (h.map pr)),.d (.int j)]=rt (.new ((HE m c h j).map pr)):=by
 have hl:h.length<=1000:=by have:=H.len; lia
 unfold cf nG;generalize (yL [hs C m c,.d (.list (h.map pr)),.d (.int j)]).1=f;generalize (yL [hs C m c,.d (.list (h.map pr)),.d (.int j)]).2=U;refine eF (x:=.new ((HE m c h j).map pr)) ?_;unfold kq;refine hU (δ':=[some (hs C m c),some (.d (.list (h.map pr))),some (.d (.int j)),none,none]) (yA (x:=.d .none) (gH (n:=3) (fW (x:=hs C m c) (y:=.d (.list (h.map pr))) (z:=.d (.int j)) rfl rfl rfl) rfl rfl (vB C Eh hl H.ok))) ?_;have ec:(fun δ=>bd (e2 (gx false) (aN cy (aa (af 1) ai)) (eC (.int 12)) δ) bD) [some (hs C m c),some (.d (.list (h.map pr))),some (.d (.int j)),none,none]=rt (decide (h.length=12)):=by
  refine aU (b:=decide (h.length=12)) ((au (x:=.d (.int (h.length:Int))) (y:=.d (.int 12)) ((cm (bj (x:=.d (.list (h.map pr))) rfl)).trans ?_) rfl).trans ?_)
  ·exact f6 h
  ·rw [ju];have:((h.length:Int)==12)=decide (h.length=12):=by
    rw [Bool.eq_iff_iff,beq_iff_eq,decide_eq_true_eq];lia
   rw [this]
 by_cases NZ:h.length=12
 ·unfold bH;rw [jz ec,Ls NZ];unfold HE;rw [if_pos NZ];rfl
 ·refine hU (δ':=[some (hs C m c),some (.d (.list (h.map pr))),some (.d (.int j)),none,none]) (by rw [jz ec,Lr NZ]; rfl) ?_;have hlen:h.length<=11:=by have:=H.len; lia
  refine hU (δ':=[some (hs C m c),some (.d (.list (h.map pr))),some (.d (.int j)),some (.fz (.tb P w CT (tV m c h (j+1)) f U)),none]) (fL (x:=.fz (.tb P w CT (tV m c h (j+1)) f U)) ?_ rfl rfl) ?_
  ·exact (cm (bj (x:=.new ((qH m c h (j+1)).map xD)) (gH (n:=3) (fW (x:=hs C m c) (y:=.d (.list (h.map pr))) (z:=.d (.int (j+1))) rfl rfl ((au (x:=.d (.int j)) (y:=.d (.int 1)) rfl rfl).trans (bp _ _))) rfl rfl (pZ C El hm h1 h4 h (j+1))))).trans (CK hm h4 h (j+1) rfl)
  refine hU (δ':=[some (hs C m c),some (.d (.list (h.map pr))),some (.d (.int j)),some (.fz (.tb P w CT (tV m c h (j+1)) f U)),some (.own (((iM m c).filter fun t=>decide (gr h t<2)).map pr))]) (fL (x:=.new (((iM m c).filter fun t=>decide (gr h t<2)).map pr)) ?_ rfl rfl) ?_
  ·refine bb (xs:=(iM m c).map pr) (sG (aY (n:=1) (bj (x:=hs C m c) rfl) rfl rfl (vc C m c hm h4))) (by rw [List.length_map]; exact Lp (o7 hm h4) 0x3) ?_;refine dh (f:=pr) (b:=fun t=>decide (gr h t<2)) (g:=pr) fun t _=>⟨aU ((au (x:=.d (.int (gr h t))) (y:=.d (.int 2)) ((wM (x:=.d (.list (h.map pr))) (y:=.d (pr t)) rfl rfl rfl).trans (pU h t)) rfl).trans ?_),rfl⟩;exact d9 _ _
  show bt _ [some (hs C m c),some (.d (.list (h.map pr))),some (.d (.int j)),some (.fz (.tb P w CT (tV m c h (j+1)) f U)),some (.d (.list (((iM m c).filter fun t=>decide (gr h t<2)).map pr)))]=_;refine bG (bb (xs:=((iM m c).filter fun t=>decide (gr h t<2)).map pr) (f9 rfl) (by rw [List.length_map]; exact Lp (List.length_filter_le _ _) (Lp (o7 hm h4) 0x3)) ?_);unfold HE;rw [if_neg NZ];refine dh (f:=pr) (b:=fun t=>decide (fF (tV m c h (j+1)) (kW (h++[t])) j=0)) (g:=pr) fun t ht=>⟨aU ?_,rfl⟩;have tk:=v7.mp (Li.mp ht).1;have hp:l8 (kW (h++[t])):=fun p hp=>by
   rcases Ld.mp ((gP _).mem_iff.mp hp) with z|z
   ·exact H.one p z
   ·rw [Lg.mp z];unfold bh at tk;simp only [Bool.and_eq_true,decide_eq_true_eq] at tk;exact tk.1.1
  refine oW (l:=tV m c h (j+1)) (f:=f) (U:=U) (ys:=[.new ((kW (h++[t])).map pr),.d (.int j)]) rfl (bW (ni (x:=.new ((h++[t]).map pr)) (ps:=h++[t]) ((au (x:=.d (.list (h.map pr))) (y:=.new [pr t]) rfl rfl).trans (by rw [List.map_append]; exact hW rfl rfl rfl (by rw [List.length_map]; show h.length+1<=1000000; lia))) rfl (by rw [List.length_append]; show h.length+1<64; lia) (xF _)) rfl) rfl rfl (C8 (t4 hm h1 h4 h (j+1)) hp (by rw [(gP _).length_eq,List.length_append]; show h.length+1<=12; lia))
end
structure Tab (l:By) (AM:List (List Tl)):Prop where
 asc:∀w∈AM,w.Pairwise GR
 all:∀t w,w∈AM->t∈w.take 3->w∈c8 l t
 only:∀t w,w∈c8 l t->w∈AM/\t∈w
 three:∀w∈AM,3<=w.length
structure Stt (r:List Tl) (j:Int):Prop where
 ord:r.Pairwise v3
 pos:∀p∈r,0<=p.1
 j0:0<=j
 j2:j<=2
variable {w:List Tl}
theorem Stt.lay (s:Stt r j) (h:0<=jl r j w):Stt (av r w) (jl r j w):=
 ⟨s.ord.sublist (cZ _ _),fun p hp=>s.pos p ((cZ _ _).subset hp),h,Ly (sj _ _ _) s.j2⟩
section
variable {l:By} {AM:List (List Tl)} {goal:Int}
theorem Tab.opt (T:Tab l AM) (s:Stt r j) {Ws:List (List Tl)} (p:Play AM r j Ws):fF l r j<=bf (av r Ws.flatten):=wO T.asc T.all r.length r j Ws (K2 _) s.ord s.pos s.j2 p
theorem Tab.snd (T:Tab l AM) (s:Stt r j):∃Ws,Play AM r j Ws/\bf (av r Ws.flatten)<=fF l r j:=xl T.only r.length r j (K2 _) s.pos s.j0
theorem Play.cons {r:List Tl} {j:Int} {w:List Tl} {Ws:List (List Tl)} (hw:w∈AM) (p:Play AM (av r w) (jl r j w) Ws):Play AM r j (w::Ws)/\av r (w::Ws).flatten=av (av r w) Ws.flatten:=by
 refine ⟨⟨fun x hx=>?_,?_⟩,?_⟩
 ·rcases Lc.mp hx with e|e
  ·exact e▸hw
  ·exact p.mem x e
 ·rw [List.flatten_cons,iL]; exact p.jok
 ·rw [List.flatten_cons,eK]
def Av (AM:List (List Tl)) (goal:Int) (xs:List (List Tl)) (r:List Tl) (j:Int):Prop:=∀Ws,Play AM r j Ws->bf (av r Ws.flatten)<=goal->∀w∈Ws,w∉xs
theorem Av.take {xs:List (List Tl)} (a:Av AM goal xs r j) (hw:w∈AM):Av AM goal xs (av r w) (jl r j w):=fun Ws p hs x hx=>by
 obtain ⟨p',e⟩:=Play.cons hw p;exact a _ p' (by rw [e]; exact hs) x (KS _ hx)
theorem Av.stop (T:Tab l AM) {xs:List (List Tl)} (s:Stt r j) (hg:fF l r j=goal) (a:Av AM goal xs r j) (hw:w∈AM) (no:¬(0<=jl r j w/\fF l (av r w) (jl r j w)=goal)):Av AM goal (w::xs) r j:=fun Ws p hs x hx hm=>by
 rcases Lc.mp hm with e|e
 ·subst e;obtain ⟨A,B,rfl⟩:=List.append_of_mem hx;have pw:(A++x::B).flatten.Perm (x++(A++B).flatten):=by
   rw [List.flatten_append,List.flatten_cons,List.flatten_append,<-List.append_assoc,<-List.append_assoc];exact (List.perm_append_comm).append_right _
  have hj:=p.jok;rw [uz pw] at hj;have h0:=Ly hj (tZ _ _ _ _);rw [kL pw,eK] at hs;rw [iL] at hj;have p':Play AM (av r x) (jl r j x) (A++B):=⟨fun y hy=>p.mem y (by
   rcases Ld.mp hy with z|z
   ·exact KZ _ z
   ·exact KY _ (KS _ z)),hj⟩
  have s':=s.lay h0;have h1:=T.opt s' p';obtain ⟨Vs,q,h2⟩:=T.snd s';obtain ⟨q',e⟩:=Play.cons hw q;have h3:=T.opt s q';rw [e] at h3;exact no ⟨h0,0x1⟩
 ·exact a Ws p hs x hx e
end
theorem t7 (hm:m<=13) (h1:1<=c) (h4:c<=4) (h:List Tl) (j:Int):Tab (tV m c h j) ((qH m c h j).map tl):=by
 have sub:∀w∈(qH m c h j).map tl,w∈GN m c:=fun w hw=>by
  obtain ⟨y,hy,rfl⟩:=Lf.mp hw;exact Lf.mpr ⟨y,(pk hy).1,rfl⟩
 exact ⟨fun w hw=>B5 h1 h4 (sub w hw),fun t w hw ht=>(jZ w t _).mpr ⟨hw,ht⟩,fun t w hw=>⟨((jZ w t _).mp hw).1,(List.take_sublist 3 w).subset ((jZ w t _).mp hw).2⟩,fun w hw=>(sM hm h1 h4 (sub w hw)).1⟩
theorem Hand.stt (H:Hand m c h j):Stt h j:=⟨H.ord,H.pos,H.j0,H.j2⟩
theorem Dx {l':By} {A A':List (List Tl)} (T:Tab l A) (T':Tab l' A') (s:Stt r j) (f:∀Ws,Play A r j Ws->Play A' r j Ws) (g:∀Ws,Play A' r j Ws->Play A r j Ws):fF l r j=fF l' r j:=by
 obtain ⟨Ws,p,h1⟩:=T.snd s;obtain ⟨Vs,q,h2⟩:=T'.snd s;have h3:=T'.opt s (f _ p);have h4:=T.opt s (g _ q);lia
theorem vA (t:Tl):∀(w A B:List Tl),(A.Perm (t::B)\/A.Perm B)->(av B w).length<=(av A w).length
 |[],A,B,h=>by
  show B.length<=A.length;rcases h with h|h
  ·rw [h.length_eq,List.length_cons]; lia
  ·rw [h.length_eq]; exact K2 _
 |x::w,A,B,h=>by
  show (av (B.erase x) w).length<=(av (A.erase x) w).length;refine vA t w _ _ ?_;rcases h with h|h
  ·have e:=h.erase x;by_cases hx:x=t
   ·subst hx;rw [List.erase_cons_head] at e;by_cases hb:x∈B
    ·exact .inl (e.trans (List.perm_cons_erase hb))
    ·rw [List.erase_of_not_mem hb]; exact .inr e
   ·rw [List.erase_cons_tail (by simpa using fun z=>hx z.symm)] at e;exact .inl e
  ·exact .inr (h.erase x)
theorem FX (t:Tl) (p:h'.Perm (t::h)) (j:Int) (w:List Tl):jl h' j w<=jl h (j+1) w:=by
 have:=vA t w h' h (.inl p);have:=p.length_eq;rw [List.length_cons] at this;unfold jl;lia
theorem Cg (t:Tl) (p:h'.Perm (t::h)) {Ws:List (List Tl)} (q:Play ((qH m c h' j).map tl) h' j Ws):Play ((qH m c h (j+1)).map tl) h' j Ws:=by
 refine ⟨fun w hw=>?_,q.jok⟩;obtain ⟨y,hy,rfl⟩:=Lf.mp (q.mem w hw);refine Lf.mpr ⟨y,Li.mpr ⟨(pk hy).1,?_⟩,rfl⟩;have:=Ly (pk hy).2 (FX t p j (tl y));simpa using this
theorem Hf (hm:m<=13) (h1:1<=c) (h4:c<=4) (t:Tl) (H:Hand m c h' j) (p:h'.Perm (t::h)):decide (fF (tV m c h (j+1)) h' j=0)=GO m c h' j:=by
 unfold GO;rw [Dx (t7 hm h1 h4 h' j) (t7 hm h1 h4 h (j+1)) H.stt (fun Ws q=>Cg t p q) fun Ws q=>EV ⟨fun w hw=>?_,q.jok⟩];obtain ⟨y,hy,rfl⟩:=Lf.mp (q.mem w hw);exact Lf.mpr ⟨y,(pk hy).1,rfl⟩
theorem G7 {a b:List Tl} (p:a.Perm b) (h:b.Pairwise v3):kW a=b:=by
 have q:=(gP a).trans p;have s:=sU a;revert q s;generalize kW a=x;intro q s;exact List.Perm.eq_of_pairwise (fun x y _ _ h1 h2=>by
  unfold v3 at h1 h2;refine Prod.ext ?_ ?_ <;> lia) s h q
noncomputable def bZ (r w:List Tl):Nat:=(w.filter fun t=>decide (t∉r)).length
theorem uQ:∀(w r:List Tl),w.Nodup->bZ r w+r.length=w.length+(av r w).length
 |[],r,_=>by show 0+_=0+r.length; rfl
 |t::w,r,h=>by
  obtain ⟨h1,h2⟩:=List.nodup_cons.mp h;have ih:=uQ w (r.erase t) h2;have e:av r (t::w)=av (r.erase t) w:=rfl;have ew:bZ (r.erase t) w=bZ r w:=by
   unfold bZ;congr 1;refine List.filter_congr fun x hx=>?_;have Od:x≠t:=fun z=>h1 (z▸hx);exact decide_eq_decide.mpr (not_congr (List.mem_erase_of_ne Od))
  rw [e];rw [ew] at ih;by_cases ht:t∈r
  ·have e2:bZ r (t::w)=bZ r w:=by
    unfold bZ;rw [List.filter_cons_of_neg (by simpa using ht)]
   have hl:=List.length_erase_of_mem ht;have hp:0<r.length:=List.length_pos_of_mem ht;rw [e2,List.length_cons];lia
  ·have e2:bZ r (t::w)=bZ r w+1:=by
    unfold bZ;rw [List.filter_cons_of_pos (by simpa using ht),List.length_cons]
   rw [List.erase_of_not_mem ht] at ih ⊢;rw [e2,List.length_cons];lia
theorem yb (h:w.Nodup) (j:Int):j-(bZ r w:Int)=jl r j w:=by
 have:=uQ w r h;unfold jl;lia
noncomputable def vE (B:List Ml->List Tl->Int->Int×List Ml) (r:List Tl) (j:Int):List Ml->Int×List Ml->Int×List Ml
 |[],f=>f
 |y::ys,f=>vE B r j ys (if 0<=jl r j (tl y)/\f.1<bf r-bf (av r (tl y))+(B (y::ys) (av r (tl y)) (jl r j (tl y))).1 then (bf r-bf (av r (tl y))+(B (y::ys) (av r (tl y)) (jl r j (tl y))).1,y::(B (y::ys) (av r (tl y)) (jl r j (tl y))).2) else f)
noncomputable def LB:Nat->List Ml->List Tl->Int->Int×List Ml
 |0,_,_,_=>(0,[])
 |n+1,ys,r,j=>vE (LB n) r j ys (0,[])
theorem Gc (r:List Tl) (j:Int):jl r j []=j:=by
 unfold jl;show j-(((0:Nat):Int)-((r.length:Int)-(r.length:Int)))=j;lia
theorem BH (s:h'.Sublist h):l8 h->bf h'+((h.length:Int)-(h'.length:Int))<=bf h:=by
 induction s with
 |slnil=>intro _; exact Int.le_refl _
 |@cons l₁ l₂ a s ih=>
  intro p;have:=ih fun q hq=>p q (KS _ hq);have ha:=p a KU;have e:bf (a::l₂)=a.1+bf l₂:=by unfold bf; rw [List.map_cons,List.sum_cons]
  rw [e,List.length_cons];lia
 |@cons_cons l₁ l₂ a s ih=>
  intro p;have:=ih fun q hq=>p q (KS _ hq);have e:bf (a::l₂)=a.1+bf l₂:=by unfold bf; rw [List.map_cons,List.sum_cons]
  have e':bf (a::l₁)=a.1+bf l₁:=by unfold bf; rw [List.map_cons,List.sum_cons]
  rw [e,e',List.length_cons,List.length_cons];lia
section
variable {l:By} {AM:List (List Tl)} {goal:Int}
theorem Tab.all_ (T:Tab l AM) (s:Stt r j):fF l r j<=bf r:=T.opt s (Ws:=[]) ⟨(fun _ h=>nomatch h),by show 0<=jl r j []; rw [Gc]; exact s.j0⟩
theorem Tab.after (T:Tab l AM) (s:Stt r j) (hw:w∈AM) (h0:0<=jl r j w):fF l r j<=fF l (av r w) (jl r j w):=by
 obtain ⟨Vs,q,h2⟩:=T.snd (s.lay h0);obtain ⟨q',e⟩:=Play.cons hw q;have h3:=T.opt s q';rw [e] at h3;lia
theorem BM (T:Tab l AM) {B:List Ml->List Tl->Int->Int×List Ml} {r:List Tl} {j:Int} (s:Stt r j) (IH:∀ys r j,(∀y∈ys,tl y∈AM)->Stt r j->(B ys r j).1<=bf r-fF l r j) :
  ∀(ys:List Ml) (f:Int×List Ml),(∀y∈ys,tl y∈AM)->f.1<=bf r-fF l r j->(vE B r j ys f).1<=bf r-fF l r j
 |[],f,_,h=>h
 |y::ys,f,hy,h=>by
  unfold vE;refine BM T s IH ys _ (fun z hz=>hy z (KS _ hz)) ?_;split
  ·rename_i hc;have h1:=IH (y::ys) _ _ hy (s.lay hc.1);have h2:=T.after s (hy y KU) hc.1;show bf r-bf (av r (tl y))+_<=_;lia
  ·exact h
theorem Ct (T:Tab l AM):∀(n:Nat) (ys:List Ml) (r:List Tl) (j:Int),(∀y∈ys,tl y∈AM)->Stt r j->(LB n ys r j).1<=bf r-fF l r j
 |0,ys,r,j,_,s=>by
  have:=T.all_ s;show (0:Int)<=_;lia
 |n+1,ys,r,j,hy,s=>BM T s (Ct T n) ys (0,[]) hy (by have:=T.all_ s; show (0:Int)<=_; lia)
theorem uK (T:Tab l AM) (n:Nat) {r:List Tl} {j:Int} (s:Stt r j):∀(ys:List Ml) (f:Int×List Ml),(∀y∈ys,tl y∈AM)->f.1=bf r-fF l r j->vE (LB n) r j ys f=f
 |[],f,_,h=>rfl
 |y::ys,f,hy,h=>by
  unfold vE;rw [if_neg]
  ·exact uK T n s ys f (fun z hz=>hy z (KS _ hz)) h
  ·rintro ⟨h0,LM⟩;have h1:=Ct T n (y::ys) _ _ hy (s.lay h0);have h2:=T.after s (hy y KU) h0;lia
theorem vM {w:List Tl} (hw:3<=w.length):∀(n:Nat) (r:List Tl) (j:Int),r.length<n->j<=2->rp l goal w (n+1) r j=rp l goal w n r j
 |0,r,j,h,_=>absurd h 0x1
 |n+1,r,j,h,hj=>by
  by_cases hc:0<=jl r j w/\fF l (av r w) (jl r j w)=goal
  ·have e:∀n,rp l goal w (n+1) r j=((rp l goal w n (av r w) (jl r j w)).1,(rp l goal w n (av r w) (jl r j w)).2.1,(rp l goal w n (av r w) (jl r j w)).2.2+1):=fun n=>if_pos hc;have hl:=iX hc.1 hj hw;rw [e,e,vM hw n (av r w) (jl r j w) 0x1 (Ly (sj _ _ _) hj)]
  ·have e:∀n,rp l goal w (n+1) r j=(r,j,0):=fun n=>if_neg hc;rw [e,e]
theorem CN {y:Ml} {ys:List Ml} (hc:¬(0<=jl r j (tl y)/\fF l (av r (tl y)) (jl r j (tl y))=goal)):xQ l goal (y::ys) r j=xQ l goal ys r j:=by
 have e:rp l goal (tl y) 100 r j=(r,j,0):=if_neg hc;rw [xQ,e]; rfl
theorem DI {y:Ml} {ys:List Ml} (hc:0<=jl r j (tl y)/\fF l (av r (tl y)) (jl r j (tl y))=goal) (hw:3<=(tl y).length) (hj:j<=2) (hl:r.length<100) :
  xQ l goal (y::ys) r j=y::xQ l goal (y::ys) (av r (tl y)) (jl r j (tl y)):=by
 have e:rp l goal (tl y) 100 r j=((rp l goal (tl y) 99 (av r (tl y)) (jl r j (tl y))).1,(rp l goal (tl y) 99 (av r (tl y)) (jl r j (tl y))).2.1,(rp l goal (tl y) 99 (av r (tl y)) (jl r j (tl y))).2.2+1):=if_pos hc;have hs:=iX hc.1 hj hw;rw [xQ,e,xQ,vM hw 99 (av r (tl y)) (jl r j (tl y)) 0x1 (Ly (sj _ _ _) hj),List.replicate_succ,List.cons_append]
theorem xu (T:Tab l AM) {r:List Tl} {j:Int} (s:Stt r j) (hp:l8 r) (hg:bf r=goal):∀ys:List Ml,(∀y∈ys,tl y∈AM)->xQ l goal ys r j=[]
 |[],_=>rfl
 |y::ys,hy=>by
  rw [CN]
  ·exact xu T s hp hg ys fun z hz=>hy z (KS _ hz)
  ·rintro ⟨h0,h1⟩;have h2:=T.all_ (s.lay h0);have h3:=iX h0 s.j2 (T.three _ (hy y KU));have h4:=BH (cZ (tl y) r) hp;lia
theorem rq (T:Tab l AM) (n:Nat) {r:List Tl} {j:Int} (s:Stt r j) (hg:fF l r j=goal) (hl:r.length<100)
  (IH:∀(ys:List Ml) (xs:List (List Tl)) (w:List Tl),w∈AM->0<=jl r j w->fF l (av r w) (jl r j w)=goal->(∀y∈ys,tl y∈AM)->(∀w∈AM,w∈xs\/w∈ys.map tl)->Av AM goal xs (av r w) (jl r j w)->LB n ys (av r w) (jl r j w)=(bf (av r w)-goal,xQ l goal ys (av r w) (jl r j w))) :
  ∀(ys:List Ml) (xs:List (List Tl)) (f:Int×List Ml),(∀y∈ys,tl y∈AM)->(∀w∈AM,w∈xs\/w∈ys.map tl)->Av AM goal xs r j->0<=f.1->f.1<bf r-goal->vE (LB n) r j ys f=(bf r-goal,xQ l goal ys r j)
 |[],xs,f,_,hc,a,h0,h1=>by
  obtain ⟨Ws,p,hs⟩:=T.snd s;have hn:Ws=[]:=by
   cases Ws with
   |nil=>rfl
   |cons w Ws=>
    refine absurd ?_ (a _ p (by rw [hg] at hs; exact hs) w KU);rcases hc w (p.mem w KU) with z|z
    ·exact z
    ·cases z
  subst hn;have NM:bf r<=fF l r j:=hs;lia
 |y::ys,xs,f,hy,hc,a,h0,h1=>by
  have hw:=hy y KU;by_cases h:0<=jl r j (tl y)/\fF l (av r (tl y)) (jl r j (tl y))=goal
  ·have ih:=IH (y::ys) xs (tl y) hw h.1 h.2 hy hc (a.take hw);unfold vE;rw [ih,if_pos ⟨h.1,by show f.1<_-_+(_-_); lia⟩,DI h (T.three _ hw) s.j2 hl];rw [uK T n s ys _ (fun z hz=>hy z (KS _ hz)) (by show _-_+(_-_)=_; lia)];exact Prod.ext (by show _-_+(_-_)=_; lia) rfl
  ·rw [CN h];unfold vE;refine rq T n s hg hl IH ys (tl y::xs) _ (fun z hz=>hy z (KS _ hz)) (fun w hw'=>?_) (a.stop T s hg hw h) ?_ ?_
   ·rcases hc w hw' with z|z
    ·exact .inl (KS _ z)
    ·rw [List.map_cons] at z;rcases Lc.mp z with z|z
     ·exact .inl (z▸KU)
     ·exact .inr z
   ·split
    ·rename_i q;show 0<=_-_+_;lia
    ·exact h0
   ·split
    ·rename_i q;have k1:=Ct T n (y::ys) _ _ hy (s.lay q.1);have k2:=T.after s hw q.1;have k3:fF l (av r (tl y)) (jl r j (tl y))≠goal:=fun z=>h ⟨q.1,z⟩;show _-_+_<_;lia
    ·exact h1
theorem vN (T:Tab l AM):∀(n:Nat) (ys:List Ml) (xs:List (List Tl)) (r:List Tl) (j:Int),(∀y∈ys,tl y∈AM)->(∀w∈AM,w∈xs\/w∈ys.map tl)->r.length<=n->r.length<100->Stt r j->l8 r->Av AM goal xs r j->fF l r j=goal ->
  LB n ys r j=(bf r-goal,xQ l goal ys r j)
 |0,ys,xs,r,j,hy,hc,hn,hl,s,hp,a,hg=>by
  have e:r=[]:=Lz 0x1;subst e;rw [yW] at hg;have e0:bf []=goal:=hg;rw [xu T s hp e0 ys hy,<-e0];rfl
 |n+1,ys,xs,r,j,hy,hc,hn,hl,s,hp,a,hg=>by
  have h0:=T.all_ s;unfold LB;by_cases hM:bf r=goal
  ·rw [uK T n s ys (0,[]) hy (by show (0:Int)=_; lia),xu T s hp hM ys hy,hM,Int.sub_self]
  ·refine rq T n s hg hl (fun ys xs w hw w0 w1 hy hc a=>?_) ys xs (0,[]) hy hc a (Int.le_refl _) (by show (0:Int)<_; lia);have hs:=iX w0 s.j2 (T.three w hw);exact vN T n ys xs _ _ hy hc 0x1 0x1 (s.lay w0) (hp.sub (cZ _ _)) a w1
end
end LW
namespace L2
open PySem PySem.Spec PyProof.Rows
theorem Inv.turned2 {X:Cx} {pins:List (Addr×Obj)} {σ:St} {H:Hp} {s:Shared} {h':Heap} {t':Nat} {fp:List Addr} (I:Inv X pins σ H s) (k:∀b o,b∉fp->s.heap.get? b=some o->h'.get? b=some o) (hf:∀b∈fp,mD X pins H b):Inv X pins σ H { s with heap:=h',toks:=t' }:=by
 have nit:∀b u,H b=some u->b∉fp:=fun b u e z=>by rw [(hf b z).1] at e; cases e
 refine I.step (g':=s.gens) (d':=s.drawn) (ch:=fp) (fun b hb=>?_) (fun b o _ _ hc e _=>k b o hc e) (fun b o _ _ hc e _=>⟨o.slots,k b o hc e⟩) (fun _ _ _ _ n=>n)
  (fun b o hc e=>⟨o,k b o hc e⟩) (fun _ _ e=>e) (fun _ _ _ e=>e) (fun b ps e=>⟨#[],by rw [e]; simp⟩) (fun m hm=>?_) (fun b u e=>?_) I.bare
 ·obtain ⟨_,f1,_,f3,f4,f5⟩:=hf b hb;exact ⟨f3,f1,f4,f5⟩
 ·obtain ⟨o,es,ep,ho,r⟩:=hm;exact ⟨o,es,ep,k _ o (fun z=>(hf _ z).2.1 rfl) ho,r⟩
 ·refine (I.hok b u e).stay (fun c v hc q=>k c v ?_ q) (fun _ q=>q) fun _ _ q=>q;rcases hc with z|z
  ·rw [z]; exact nit b u e
  ·exact nit c _ z
noncomputable def JB (K:Lb) (a:Addr):It:=
 ⟨fun i H=>∃xs x,eN K H a xs/\xs[i]?=some x,fun i H x H'=>∃t y,H t=none/\x=.ref t/\H'=bX H t (.tup [.int i,y])/\∀xs,eN K H a xs->xs[i]?=some y,fun i H=>∃xs,eN K H a xs/\xs.length<=i⟩
theorem Aj {P:Program} {w:World} {K:Lb} {elts:List Expr} {k:Nat} {pos:Pos} (a e it:Addr) (hei:e≠it):Turn P w K (.Tuple elts k pos) (JB K a) [e,it] e (fun i h=>(∃old,IsEnum h e it i old)/\h.IsListIter it a i) where
 mem:=KU
 obj:=fun i h st b hb=>by
  obtain ⟨⟨old,st⟩,o,e',c,d⟩:=st;rcases Lc.mp hb with z|hb
  ·subst z;exact ⟨_,st,fun v z=>by have z':Data.fields _=Data.cell v:=z; cases z'⟩
  ·have z:b=it:=by simpa using hb
   subst z;exact ⟨o,e',fun v z=>by rw [d] at z; cases z⟩
 keep:=fun i h h' st k=>by
  obtain ⟨⟨old,he⟩,hi⟩:=st;exact ⟨⟨old,k e KU _ he⟩,hi.at fun o q=>k it (KS _ KU) o q⟩
 item:=by
  intro X hP hw hK hc i pins s σ H E I hf st hg;subst hP hw hK;obtain ⟨⟨old,he⟩,hit⟩:=st;obtain ⟨xs,x,hq,hx⟩:=hg;obtain ⟨B',rv,p,hz⟩:=I.list hq;obtain ⟨u,hu,ru⟩:=rv.get hx;refine wpAny_pyNext_enum_item he hit p.isList (x:=u) (by simpa using hu) hei fun h' ho hit' hT Ny hk=>?_;refine ⟨_,rfl,wpAny_letOwnedTupleGo_enum ho fun h2 he2 M3=>?_⟩;have M3:Heap.SameBut e h' h2:=M3;have he2:IsEnum h2 e it ((i:Int)+1) u:=he2;have LM:e<s.heap.objs.size:=K5 he;have hilt:it<s.heap.objs.size:=by obtain ⟨_,q,_⟩:=hit; exact K5 q
  have hTe:s.heap.objs.size≠e:=Nat.ne_of_gt LM;have hTi:s.heap.objs.size≠it:=Nat.ne_of_gt hilt;have I1:Inv X pins σ (bX H s.heap.objs.size (.tup [.int i,x])) { s with heap:=s.heap.push { cls:=.type "tuple",data:=.seq #[.int i s.toks,u] },toks:=s.toks }:=
   I.laid (t':=s.toks) (fun b o q=>KW _ q) (K2 _) ⟨L3.line_big (by show 2<=1000000; decide),[.int i s.toks,u],.cons ⟨_,rfl⟩ (.cons ru .nil),⟨_,Lv _ rfl,rfl,_,rfl⟩⟩
  have hf':∀b∈[e,it],mD X pins (bX H s.heap.objs.size (.tup [.int i,x])) b:=fun b hb=>by
   obtain ⟨f0,f1⟩:=hf b hb;refine ⟨?_,f1⟩;rw [aG]
   ·exact f0
   ·rintro rfl;rcases Lc.mp hb with z|hb
    ·exact hTe z
    ·exact hTi (by simpa using hb)
  have I2:=I1.turned2 (h':=h2) (t':=s.toks+1) (fp:=[e,it]) (fun b o hb q=>by
   have N0:b≠e:=fun z=>hb (by simp [z]);have hbi:b≠it:=fun z=>hb (by simp [z]);rw [M3.2 b N0];by_cases hbT:b=s.heap.objs.size
   ·subst hbT;have q':(s.heap.push { cls:=.type "tuple",data:=.seq #[.int i s.toks,u] }).get? s.heap.objs.size=some o:=q;rw [Lv _ rfl] at q';cases q';exact hT
   ·refine hk b o N0 hbi ?_;rw [<-q];exact (Heap.get?_push_ne _ _ _ hbT).symm) hf'
  refine ⟨.ref s.heap.objs.size,_,I2,rfl,⟨_,x,I.hok.fresh (K2 _),rfl,rfl,fun ys hy=>by rw [I.list_inj hy hq]; exact hx⟩,⟨⟨u,?_⟩,?_⟩,fun b hb=>(hf' b hb).1⟩
  ·have z:((i+1:Nat):Int)=(i:Int)+1:=by push_cast; rfl
   rw [z]; exact he2
  ·exact hit'.at fun o q=>(M3.2 it (Ne.symm hei)).trans q
 done:=by
  intro X hP hw hK hc i pins s σ H E I hf st hg;subst hP hw hK;obtain ⟨⟨old,he⟩,hit⟩:=st;obtain ⟨xs,hq,hx⟩:=hg;obtain ⟨B',rv,p,hz⟩:=I.list hq;have hl:=rv.length;exact wpAny_pyNext_enum_end (I.ok.hd hc) he hit p.isList (by simp; lia) fun h' eb=>⟨rfl,I.turned2 (t':=s.toks) (fp:=[e,it]) (fun b o hb q=>eb b o (fun z=>hb (by simp [z])) q) hf⟩
 self:=fun _ _ _ _ _ st h=>by
  obtain ⟨⟨old,he⟩,_⟩:=st;exact wpAny_pyIter_enum he h
theorem zS:bootBuiltins "enumerate" = some (.type "enumerate"):=by decide +kernel
section
variable {X:Cx} {elts:List Expr} {k:Nat} {tp:Pos}
def Ik (K:Lb) (ta:TA):TI:=fun σ H R=>ta σ H fun vs H1=>∃a,vs=[.ref a]/\(∃xs,eN K H1 a xs)/\R (JB K a) H1
theorem DG {a:Expr} {ta:TA} {p pos:Pos} (hg:Gl X "enumerate") (hm:X.mg "enumerate" = none) (ha:PA X [a] ta) (hs:starEach [a] X.env=[(false,eval a X.env)]:=by rfl):PI X (.Tuple elts k tp) (.Call (.Name "enumerate" p) [a] [] pos) (Ik X.K ta):=by
 intro pins s σ H R I h;refine Call_ (lj I hg hm zS (PyProof.Rows.callWith_type1 (cG (ha pos pins s σ H _ I h) fun us s1 ⟨vs,H1,I1,r1,q1⟩=>?_) hs rfl));obtain ⟨b,e,⟨xs,hq⟩,q⟩:=q1;subst e;cases r1 with
 |cons r rr=>
  cases rr;cases r;obtain ⟨B',rv,pl,hz⟩:=I1.list hq;refine call_enumerate_list pl.isList fun h' he hit Ny hk=>wpAny_pyIter_enum he ?_;have I2:Inv X pins σ H1 { s1 with heap:=h' }:=I1.kept (t':=s1.toks) hk;refine ⟨s1.heap.objs.size+1,[s1.heap.objs.size+1,s1.heap.objs.size],_,_,H1,rfl,I2,Aj b _ _ (Nat.ne_of_gt (Nat.lt_succ_self _)),⟨⟨.none,he⟩,hit⟩,fun c hc=>?_,q⟩;have hle:s1.heap.objs.size<=c:=by
   rcases Lc.mp hc with z|hc
   ·rw [z]; exact Nat.le_succ _
   ·have z:c=s1.heap.objs.size:=by simpa using hc
    rw [z]; exact K2 _
  exact I1.fpOk hle (I1.hok.fresh hle)
end
end L2
namespace L3
open PySem PySem.Spec L2
open PyProof.Rows hiding St
def Fm (O P:List Addr) (H:Hp) (J:It) (xs:List D):Prop:=∀(i:Nat) (P':List Addr) (H':Hp),Kp P H P' H'->(∀a,a∈P'++O->∃o,H' a=some o) ->
 (∀d,xs[i]?=some d->J.go i H'/\∀x H2,J.yld i H' x H2->aF H' H2/\Rp (P'++O) H2 d x)/\(xs.length<=i->J.stop i H')
def KC (E:XK) (O P:List Addr) (H:Hp) (R:It->Hp->Prop):Except Value (List D)->Prop
 |.ok xs=>∀J H',aF H H'->Fm O P H' J xs->R J H'
 |.error c=>∀dx H',aF H H'->E c dx H'
def tN (E:XK) (f:DS->M (List D)):TI:=fun σ H R=>∃O P δ r,RS O P H σ δ/\f δ=some r/\KC E O P H R r
noncomputable def n8 (n:Nat):List D->List D
 |[]=>[]
 |x::r=>.tuple [.int n,x]::n8 (n+1) r
theorem we:∀(n:Nat) (xs:List D),(n8 n xs).length=xs.length
 |_,[]=>rfl
 |n,x::r=>by rw [n8,List.length_cons,List.length_cons,we]
theorem vt:∀(n:Nat) {xs:List D} {i:Nat} {d:D},(n8 n xs)[i]?=some d->∃x,xs[i]?=some x/\d=.tuple [.int ((n+i:Nat):Int),x]
 |n,[],i,d,h=>by simp [n8] at h
 |n,x::r,0,d,h=>by
  rw [n8,List.getElem?_cons_zero] at h;cases h;exact ⟨x,rfl,rfl⟩
 |n,x::r,i+1,d,h=>by
  rw [n8,List.getElem?_cons_succ] at h;obtain ⟨y,e1,e2⟩:=vt (n+1) h;exact ⟨y,by rw [List.getElem?_cons_succ]; exact e1,by rw [e2,show n+1+i=n+(i+1) by lia]⟩
noncomputable def Kh (fr:DS->M (List DV)) (δ:DS):M (List D):=bd (fr δ) fun xs=>match xs with
 |[x]=>match v9 x with
  |some (.list ys)=>rt (n8 0 ys)
  |_=>none
 |_=>none
theorem DD {O P:List Addr} {H:Hp} {K:Lb} {xs:List D} {v:V} (r:Rp (P++O) H (.list xs) v):∃a,v=.ref a/\(∃vs,eN K H a vs)/\Fm O P H (JB K a) (n8 0 xs):=by
 cases r with
 |@lst a _ vs hz ha l=>
  refine ⟨a,rfl,⟨vs,eN.of ha⟩,fun i P' H' k dom=>?_⟩;have Ms:=k.keep a _ (fun h=>hz (KZ _ h)) ha;have l':=l.kp (Kp.app (O:=O) k);refine ⟨fun d hd=>?_,fun h=>⟨vs,eN.of Ms,by rw [we] at h; rw [<-l.length]; exact h⟩⟩;obtain ⟨y,hy,rfl⟩:=vt 0 hd;obtain ⟨x,hx,rx⟩:=l'.get hy;refine ⟨⟨vs,x,eN.of Ms,hx⟩,fun z H2 ⟨t,u,hn,e1,e2,e3⟩=>?_⟩;have:=e3 vs (eN.of Ms);rw [hx] at this;cases this;subst e1 e2;refine ⟨bw hn,.tup (fun hm=>?_) aW (.cons (by rw [Nat.zero_add]; exact .int _) (.cons (rx.kp (.same (bw hn))) .nil))⟩;obtain ⟨o,e⟩:=dom t hm;rw [hn] at e; cases e
section
variable {X:Cx} {E:XK} {elts:List Expr} {k:Nat} {tp:Pos}
theorem IU {a:Expr} {fr:DS->M (List DV)} {p pos:Pos} (hm:X.mg "enumerate" = none) (ha:vg X E [a] fr) (hg:Gl X "enumerate" :=by rfl) (hs:starEach [a] X.env=[(false,eval a X.env)]:=by rfl):PI X (.Tuple elts k tp) (.Call (.Name "enumerate" p) [a] [] pos) (tN E (Kh fr)):=PI.mono (DG hg hm ha hs) fun σ H R q=>by
 obtain ⟨O,P,δ,r,rs,e,q⟩:=q;rcases az e with ⟨xs,e1,e2⟩|⟨cx,e1,e2⟩
 ·refine ⟨O,P,δ,.ok xs,rs,e1,fun vs H1 s1 rx=>?_⟩;split at e2
  ·split at e2
   ·rename_i ys h;cases e2;cases rx with
    |cons r1 rr=>
     cases rr;obtain ⟨a,rfl,h1,h2⟩:=DD (K:=X.K) (r1.data rs.dom h);exact ⟨a,rfl,h1,q _ H1 s1 h2⟩
   ·cases e2
  ·cases e2
 ·subst e2;exact ⟨O,P,δ,.error cx,rs,e1,q⟩
theorem Et {iter tg:Expr} {body:List Stmt} {fi:DS->M (List D)} {g:TG} {sf:D->DS->Option DS} {B:DS->M Out} {pos:Pos} (hp:PassesOwn (model X.prog X.w) X.A X.env X.xe) (hc:X.calm=true) (hi:PI X tg iter (tN E fi)) (hg:PG X tg g) (ht:C7 g sf) (hb:Aw X E body B)
  (hs:∀x,foldedSetIterable iter X.env x=pure x:=by intro _; rfl):ze X E (.For tg iter body [] pos) (b9 fi sf B):=PS.mono (ub hp hc hi hg hb hs) fun T σ H q=>by
 obtain ⟨O,P,δ,r,rs,e,q⟩:=q;rcases az e with ⟨xs,e1,e2⟩|⟨cx,e1,e2⟩
 ·refine ⟨O,P,δ,.ok xs,rs,e1,fun J H1 s1 it=>?_⟩;refine ⟨fun i m σ' H'=>m=xs.length-i/\i<=xs.length/\∃P' δ',Kp P H1 P' H'/\RS O P' H' σ' δ'/\dU sf B (xs.drop i) δ'=some r,⟨xs.length,0x4,Lo _,P,δ,.refl,rs.same s1,e2⟩,?_⟩;rintro i m σ' H' ⟨rfl,hi,P',δ',k,LY,el⟩;have q':=q.on ((Kp.same s1).trans k);by_cases LM:i<xs.length
  ·obtain ⟨go,yl⟩:=(it i P' H' k LY.dom).1 xs[i] (by simp [LM]);refine .inr ⟨go,fun σ2 H2=>∃P2 δ2,Kp P H1 P2 H2/\RS O P2 H2 σ2 δ2/\dU sf B (xs.drop (i+1)) δ2=some r,fun σ2 H2 ⟨P2,δ2,h1,h2,h3⟩=>⟨xs.length-(i+1),0x1,rfl,LM,P2,δ2,h1,h2,h3⟩,fun x H2 hy=>?_⟩;obtain ⟨s2,rx⟩:=yl x H2 hy;have k:=k.trans (Kp.same s2);have q':=q.on ((Kp.same s1).trans k);have LY:=LY.same s2;rw [List.drop_eq_getElem_cons LM] at el;obtain ⟨δ1,e3,e4⟩:=bQ el;refine ht O P' H2 σ' δ' δ1 _ x _ LY rx e3 fun σ1 LC=>?_;rcases az e4 with ⟨o,e5,e6⟩|⟨cx,e5,e6⟩
   ·refine ⟨O,P',δ1,.ok o,LC,e5,?_⟩;cases o with
    |nx δ2=>exact fun σ2 H3 P2 k2 ND=>⟨P2,δ2,k.trans k2,ND,e6⟩
    |ct δ2=>exact fun σ2 H3 P2 k2 ND=>⟨P2,δ2,k.trans k2,ND,e6⟩
    |bk δ2=>cases e6; exact q'
    |rt y=>cases e6; exact q'
   ·subst e6;exact ⟨O,P',δ1,.error cx,LC,e5,q'⟩
  ·have Mu:i=xs.length:=by lia
   subst Mu;rw [List.drop_length] at el;cases el;exact .inl ⟨(it _ P' H' k LY.dom).2 (K2 _),q' σ' H' P' .refl LY⟩
 ·subst e2;exact ⟨O,P,δ,.error cx,rs,e1,fun dx H' s=>q dx H' P (.same s)⟩
end
theorem fg {X:Cx} {pos:Pos} {i:Nat} {x:Str} (hN:X.N.Nodup) (hi:X.N[i]?=some x:=by rfl) (hx:HW X.env.scope x:=by first|exact Or.inl rfl|exact Or.inr rfl) (hf:X.fn x=true\/X.env.scope.names.lookup x=some .local:=by first|exact .inl rfl|exact .inr rfl|assumption):PG X (.Name x pos) (nR i):=Fk hN hi hx hf
end L3
namespace LW
open PySem PySem.Spec L2 L3
noncomputable def iC (K:Lb):DS->M Out:=(bH (aR 2 (aN (ay 2 (aH K)) (aa (af 0) (aa (eC (.int 1)) ai)))) (bt (e2 cb (bV (aa (eC (.int 0)) (aa (eC (.int 0)) (aa (eC (.int 1)) (aa (e2 cb (bV (aa (eC (.int 1)) (aa (eC (.int 2)) ai))) (aN Cj (aa (e2 gn (aN cy (aa (af 1) ai)) (eC (.int 6))) ai))) ai))))) (e2 iZ (af 2) (eC (.int 4))))))
noncomputable def cq (K:Lb):List DV->M DV:=eE ["script", "hand", "cell"] (iC K)
noncomputable def j6:DS->M Out:=(bt (aN cy (aa (aK 1 [0] (iw (af 1)) (aq 0) (fun δ=>bd (e2 (wy true) (af 0) (af 1) δ) bD) (af 0)) ai)))
noncomputable def bO:List DV->M DV:=eE ["rest", "tiles"] (j6)
noncomputable def ka:DS->M Out:=(bH (aR 2 (aN u9 (aa (af 0) ai))) (bH (b9 (iw (af 1)) (aq 3) (eQ (fun δ=>bd (e2 (wy false) (af 3) (af 2) δ) bD) (qI 2 (af 3)) bK)) (bt (af 2))))
noncomputable def cC:List DV->M DV:=eE ["rest", "tiles", "found", "tile"] (ka)
noncomputable def nQ (m__law_best:List DV->M DV):DS->M Out:=(bH (aR 3 (aZ (aa (eC (.int 0)) (aa (bV ai) ai)))) (bH (b9 (Kh (aa (af 0) ai)) (nq 2 (dE (aq 4) (dE (aq 5) n4))) (bH (aR 6 (aN (ay 1 (bq)) (aa (af 5) ai))) (fun δ=>(bH (aR 7 (aN (ay 2 (bO)) (aa (af 1) (aa (af 6) ai)))) (eQ (fun δ=>bd (e2 kP (af 7) (af 2) δ) bD) (fun δ=>(bH (aR 8 (aN (ay 2 (cC)) (aa (af 1) (aa (af 6) ai)))) (fun δ=>(bH (aR 9 (e2 gSub (aN uq (aa (aK 1 [] (iw (af 1)) (aq 0) bA (e2 cb (af 0) (eC (.int 0)))) ai)) (aN uq (aa (aK 1 [] (iw (af 8)) (aq 0) bA (e2 cb (af 0) (eC (.int 0)))) ai)))) (fun δ=>(bH (aR 10 (aN (ay 3 m__law_best) (aa (qp (af 0) (af 4)) (aa (af 8) (aa (e2 gSub (af 2) (af 7)) ai))))) (eQ (fun δ=>bd (e2 mY (e2 aw (af 9) (e2 cb (af 10) (eC (.int 0)))) (e2 cb (af 3) (eC (.int 0))) δ) bD) (aR 3 (aZ (aa (e2 aw (af 9) (e2 cb (af 10) (eC (.int 0)))) (aa (e2 aw (bV (aa (af 5) ai)) (e2 cb (af 10) (eC (.int 1)))) ai)))) bK)) (frz 8 δ))) (frz 8 δ))) (frz 6 δ)) bK)) (frz 6 δ)))) (bt (af 3))))
noncomputable def fU (m__law_best:List DV->M DV):List DV->M DV:=eE ["some", "rest", "jokers", "found", "k", "meld", "tiles", "wanting", "behind", "gain", "more"] (nQ m__law_best)
noncomputable def j5 (m__law_best:List DV->M DV):DS->M Out:=(bH (aR 4 (aK 1 [3,2] (iw (aN (ay 2 (eX)) (aa (af 0) (aa (af 1) ai)))) (aq 0) (fun δ=>bd (e2 kP (aN (ay 2 (bO)) (aa (af 2) (aa (aN (ay 1 (bq)) (aa (af 0) ai)) ai))) (af 1) δ) bD) (af 0))) (fun δ=>(bt (aN (ay 3 m__law_best) (aa (af 4) (aa (af 2) (aa (af 3) ai))))) (frz 4 δ)))
noncomputable def dP (m__law_best:List DV->M DV):List DV->M DV:=eE ["most", "colours", "hand", "jokers", "some"] (j5 m__law_best)
theorem DR (r:List Tl) (p:Tl):wy true (.d (pr p)) (.d (.list (r.map pr)))=rt (.d (.bool (decide (p∉r)))):=by
 unfold wy;show (if (pr p).depth<=60 then _ else none)=_;rw [if_pos (show (pr p).depth<=60 from (by decide:1<=60))];show rt (DV.d (.bool (!((r.map pr).any fun z=>PyData.eqv z (pr p)))))=_;rw [AX,decide_not]
theorem En (xs:List D):cy [.new xs]=rt (.d (.int (xs.length:Int))):=by
 unfold cy;rfl
theorem nz (r w:List Tl) (hl:w.length<=1000):bO [.d (.list (r.map pr)),.d (.list (w.map pr))]=rt (.d (.int (bZ r w:Int))):=by
 unfold bO j6;refine eF (x:=.d (.int (bZ r w:Int))) (bG ?_);refine (cm (bj (bb (xs:=w.map pr) (f9 rfl) (by rw [List.length_map]; lia) (dh (b:=fun t=>decide (t∉r)) (g:=pr) fun p _=>⟨?_,rfl⟩)))).trans ?_
 ·exact aU ((au (x:=.d (pr p)) (y:=.d (.list (r.map pr))) rfl rfl).trans (DR r p))
 ·rw [En,List.length_map]; rfl
noncomputable def HV (r w g:List Tl) (x3:Option DV):DS:=[some (.d (.list (r.map pr))),some (.d (.list (w.map pr))),some (.own (g.map pr)),x3]
theorem Aq (r w:List Tl) (hl:w.length<=1000):cC [.d (.list (r.map pr)),.d (.list (w.map pr))]=rt (.new ((av r w).map pr)):=by
 obtain ⟨δ',e,x3,h⟩:=gd (f:=pr) (i:=3) (N:=1000) (B:=(eQ (fun δ=>bd (e2 (wy false) (af 3) (af 2) δ) bD) (qI 2 (af 3)) bK)) (all:=w) (fun pre δ=>∃x3,δ=HV r w (av r pre) x3) (fun pre p δ hp MU hI=>by
  obtain ⟨x3,rfl⟩:=hI;have hla:av r (pre++[p])=(av r pre).erase p:=by unfold av; rw [List.foldl_append]; rfl
  refine ⟨HV r w (av r (pre++[p])) (some (.d (pr p))),?_,_,rfl⟩;have ht:(fun δ=>bd (e2 (wy false) (af 3) (af 2) δ) bD) (HV r w (av r pre) (some (.d (pr p))))=rt (decide (p∈av r pre)):=aU ((au (x:=.d (pr p)) (y:=.own ((av r pre).map pr)) rfl rfl).trans (yR _ _));by_cases Mu:p∈av r pre
  ·rw [Ls Mu] at ht;refine HU ht ?_;obtain ⟨i,e1,e2⟩:=qf Mu;show qI 2 (af 3) (HV r w (av r pre) (some (.d (pr p))))=_;unfold qI;show bd (rt (DV.d (pr p))) _=_;rw [aE];show bd (rt (pr p)) _=_;rw [aE,if_pos (show (pr p).depth<=60 from (by decide:1<=60)),sT,e1];show rt (Out.nx _)=_;rw [jt,e2,<-hla];rfl
  ·rw [Lr Mu] at ht;refine xT ht ?_;rw [hla,List.erase_of_not_mem Mu];rfl) w [] _ (fun a ha=>ha) (by simpa using hl) ⟨none,rfl⟩
 rw [List.nil_append] at h;subst h;unfold cC;refine eF (x:=.own ((av r w).map pr)) ?_;unfold ka;refine hU (δ':=HV r w r none) (fL (x:=.new (r.map pr)) ((cm (bj (x:=.d (.list (r.map pr))) rfl)).trans rfl) rfl rfl) ?_;refine hU (δ':=HV r w (av r w) x3) (jM (xs:=w.map pr) (f9 rfl) e) ?_;exact bG rfl
theorem xf {i:Nat} {δ:DS} {ps:List Tl} (h:af i δ=rt (.d (.list (ps.map pr)))) (hl:ps.length<=1000):aN uq (aa (aK 1 [] (iw (af i)) (aq 0) bA (e2 cb (af 0) (eC (.int 0)))) ai) δ=rt (.d (.int (bf ps))):=by
 refine (cm (bj (bb (xs:=ps.map pr) (f9 h) (by rw [List.length_map]; lia) (cK (g:=fun p=>PyData.int p.1) fun p _=>?_)))).trans ?_
 ·exact (au (x:=.d (pr p)) (y:=.d (.int 0)) rfl rfl).trans (a5 rfl)
 ·unfold uq;simp only [k7,a8,aE];rw [show (ps.map fun p=>PyData.int p.1)=(ps.map (·.1)).map PyData.int by rw [List.map_map]; rfl,zL];rfl
structure Mg (y:Ml):Prop where
 law:bq [.d (md y)]=rt (.new ((tl y).map pr))
 three:3<=(tl y).length
 len:(tl y).length<=1000
 nd:(tl y).Nodup
noncomputable def qT (f:Int×List Ml):D:=.tuple [.int f.1,.list (f.2.map md)]
noncomputable def bδ (ms:List D) (r:List Tl) (j:Int) (f:Int×List Ml) (x4 x5 x6 x7 x8 x9 x10:Option DV):DS:=[some (.d (.list ms)),some (.d (.list (r.map pr))),some (.d (.int j)),some (.d (qT f)),x4,x5,x6,x7,x8,x9,x10]
noncomputable def bB (mb:List DV->M DV):DS->M Out:=(bH (aR 6 (aN (ay 1 (bq)) (aa (af 5) ai))) (fun δ=>(bH (aR 7 (aN (ay 2 (bO)) (aa (af 1) (aa (af 6) ai)))) (eQ (fun δ=>bd (e2 kP (af 7) (af 2) δ) bD) (fun δ=>(bH (aR 8 (aN (ay 2 (cC)) (aa (af 1) (aa (af 6) ai)))) (fun δ=>(bH (aR 9 (e2 gSub (aN uq (aa (aK 1 [] (iw (af 1)) (aq 0) bA (e2 cb (af 0) (eC (.int 0)))) ai)) (aN uq (aa (aK 1 [] (iw (af 8)) (aq 0) bA (e2 cb (af 0) (eC (.int 0)))) ai)))) (fun δ=>(bH (aR 10 (aN (ay 3 mb) (aa (qp (af 0) (af 4)) (aa (af 8) (aa (e2 gSub (af 2) (af 7)) ai))))) (eQ (fun δ=>bd (e2 mY (e2 aw (af 9) (e2 cb (af 10) (eC (.int 0)))) (e2 cb (af 3) (eC (.int 0))) δ) bD) (aR 3 (aZ (aa (e2 aw (af 9) (e2 cb (af 10) (eC (.int 0)))) (aa (e2 aw (bV (aa (af 5) ai)) (e2 cb (af 10) (eC (.int 1)))) ai)))) bK)) (frz 8 δ))) (frz 8 δ))) (frz 6 δ)) bK)) (frz 6 δ)))
theorem vj {ms:List D} {k:Nat} (hk:k<=ms.length):sZ ms (some (k:Int)) none=ms.drop k:=by
 unfold sZ;rw [HT.sIx_nat,HT.sIx_none,Nat.min_eq_left hk,List.take_of_length_le];rw [List.length_drop]; exact K2 _
section
variable {mb:List DV->M DV} {B:List Ml->List Tl->Int->Int×List Ml} {r:List Tl} {j:Int}
theorem Fi {ms:List D} {y:Ml} {zs:List Ml} {k:Nat} {f:Int×List Ml} {x6 x7 x8 x9 x10:Option DV} (g:Mg y) (hr:r.length<=1000) (hk:k<=ms.length) (hd:ms.drop k=(y::zs).map md)
  (hb:0<=jl r j (tl y)->mb [.d (.list ((y::zs).map md)),.d (.list ((av r (tl y)).map pr)),.d (.int (jl r j (tl y)))]=rt (.d (qT (B (y::zs) (av r (tl y)) (jl r j (tl y)))))/\(B (y::zs) (av r (tl y)) (jl r j (tl y))).2.length<=1000) :
  ∃q6 q7 q8 q9 OP,bB mb (bδ ms r j f (some (.d (.int (k:Int)))) (some (.d (md y))) x6 x7 x8 x9 x10)=rt (.nx (bδ ms r j (if 0<=jl r j (tl y)/\f.1<bf r-bf (av r (tl y))+(B (y::zs) (av r (tl y)) (jl r j (tl y))).1 then (bf r-bf (av r (tl y))+(B (y::zs) (av r (tl y)) (jl r j (tl y))).1,y::(B (y::zs) (av r (tl y)) (jl r j (tl y))).2) else f) (some (.d (.int (k:Int)))) (some (.d (md y))) q6 q7 q8 q9 OP)):=by
 have hj:=yb (r:=r) g.nd j;have hlr:(av r (tl y)).length<=1000:=Lp (kf (tl y) r).1 hr;unfold bB;by_cases h0:0<=jl r j (tl y)
 ·obtain ⟨hb1,hb2⟩:=hb h0;generalize hB:B (y::zs) (av r (tl y)) (jl r j (tl y))=b at hb1 hb2 ⊢;refine ⟨some (.d (.list ((tl y).map pr))),some (.d (.int (bZ r (tl y):Int))),some (.d (.list ((av r (tl y)).map pr))),some (.d (.int (bf r-bf (av r (tl y))))),some (.d (qT b)),?_⟩;refine hU (δ':=bδ ms r j f (some (.d (.int (k:Int)))) (some (.d (md y))) (some (.own ((tl y).map pr))) x7 x8 x9 x10) (fL (x:=.new ((tl y).map pr)) (aY (n:=1) (bj (x:=.d (md y)) rfl) rfl rfl g.law) rfl rfl) ?_;show bH _ _ (bδ ms r j f (some (.d (.int (k:Int)))) (some (.d (md y))) (some (.d (.list ((tl y).map pr)))) x7 x8 x9 x10)=_;refine hU (δ':=bδ ms r j f (some (.d (.int (k:Int)))) (some (.d (md y))) (some (.d (.list ((tl y).map pr)))) (some (.d (.int (bZ r (tl y):Int)))) x8 x9 x10) (fL (x:=.d (.int (bZ r (tl y):Int))) (aY (n:=2) (bW (x:=.d (.list (r.map pr))) (y:=.d (.list ((tl y).map pr))) rfl rfl) rfl rfl (nz r (tl y) g.len)) rfl rfl) ?_;refine HU (aU ((au (x:=.d (.int (bZ r (tl y):Int))) (y:=.d (.int j)) rfl rfl).trans ((iN _ _).trans (by rw [Ls (show (bZ r (tl y):Int)<=j by lia)])))) ?_;show bH _ _ (bδ ms r j f (some (.d (.int (k:Int)))) (some (.d (md y))) (some (.d (.list ((tl y).map pr)))) (some (.d (.int (bZ r (tl y):Int)))) x8 x9 x10)=_;refine hU (δ':=bδ ms r j f (some (.d (.int (k:Int)))) (some (.d (md y))) (some (.d (.list ((tl y).map pr)))) (some (.d (.int (bZ r (tl y):Int)))) (some (.own ((av r (tl y)).map pr))) x9 x10) (fL (x:=.new ((av r (tl y)).map pr)) (aY (n:=2) (bW (x:=.d (.list (r.map pr))) (y:=.d (.list ((tl y).map pr))) rfl rfl) rfl rfl (Aq r (tl y) g.len)) rfl rfl) ?_;show bH _ _ (bδ ms r j f (some (.d (.int (k:Int)))) (some (.d (md y))) (some (.d (.list ((tl y).map pr)))) (some (.d (.int (bZ r (tl y):Int)))) (some (.d (.list ((av r (tl y)).map pr)))) x9 x10)=_;refine hU (δ':=bδ ms r j f (some (.d (.int (k:Int)))) (some (.d (md y))) (some (.d (.list ((tl y).map pr)))) (some (.d (.int (bZ r (tl y):Int)))) (some (.d (.list ((av r (tl y)).map pr)))) (some (.d (.int (bf r-bf (av r (tl y)))))) x10) (fL (x:=.d (.int (bf r-bf (av r (tl y))))) ((au (xf rfl hr) (xf rfl hlr)).trans (dq _ _)) rfl rfl) ?_;show bH _ _ (bδ ms r j f (some (.d (.int (k:Int)))) (some (.d (md y))) (some (.d (.list ((tl y).map pr)))) (some (.d (.int (bZ r (tl y):Int)))) (some (.d (.list ((av r (tl y)).map pr)))) (some (.d (.int (bf r-bf (av r (tl y)))))) x10)=_;refine hU (δ':=bδ ms r j f (some (.d (.int (k:Int)))) (some (.d (md y))) (some (.d (.list ((tl y).map pr)))) (some (.d (.int (bZ r (tl y):Int)))) (some (.d (.list ((av r (tl y)).map pr)))) (some (.d (.int (bf r-bf (av r (tl y)))))) (some (.d (qT b)))) (fL (x:=.d (qT b)) (aY (n:=3) (fW (x:=.new ((y::zs).map md)) (y:=.d (.list ((av r (tl y)).map pr))) (z:=.d (.int (jl r j (tl y)))) ?_ rfl ((au (x:=.d (.int j)) (y:=.d (.int (bZ r (tl y):Int))) rfl rfl).trans (by rw [dq,hj]))) rfl rfl hb1) rfl rfl) ?_
  ·unfold qp;show bd (rt (DV.d (.list ms))) _=_;rw [aE];show bd (rt (DV.d (.int (k:Int)))) _=_;rw [aE,C1,aE];unfold vw;rw [zj,a8,aE,vj hk,hd]
  ·have e1:e2 aw (af 9) (e2 cb (af 10) (eC (.int 0))) (bδ ms r j f (some (.d (.int (k:Int)))) (some (.d (md y))) (some (.d (.list ((tl y).map pr)))) (some (.d (.int (bZ r (tl y):Int)))) (some (.d (.list ((av r (tl y)).map pr)))) (some (.d (.int (bf r-bf (av r (tl y)))))) (some (.d (qT b))))=rt (.d (.int (bf r-bf (av r (tl y))+b.1))):=
    (au (x:=.d (.int (bf r-bf (av r (tl y))))) (y:=.d (.int b.1)) rfl ((au (x:=.d (qT b)) (y:=.d (.int 0)) rfl rfl).trans (a5 rfl))).trans (bp _ _)
   have ht:(fun δ=>bd (e2 mY (e2 aw (af 9) (e2 cb (af 10) (eC (.int 0)))) (e2 cb (af 3) (eC (.int 0))) δ) bD) (bδ ms r j f (some (.d (.int (k:Int)))) (some (.d (md y))) (some (.d (.list ((tl y).map pr)))) (some (.d (.int (bZ r (tl y):Int)))) (some (.d (.list ((av r (tl y)).map pr)))) (some (.d (.int (bf r-bf (av r (tl y)))))) (some (.d (qT b))))=rt (decide (f.1<bf r-bf (av r (tl y))+b.1)):=
    aU ((au e1 ((au (x:=.d (qT f)) (y:=.d (.int 0)) rfl rfl).trans (a5 rfl))).trans (gq _ _))
   by_cases LM:f.1<bf r-bf (av r (tl y))+b.1
   ·rw [Ls LM] at ht;rw [if_pos ⟨h0,LM⟩];refine HU ht (fL (x:=.d (qT (bf r-bf (av r (tl y))+b.1,y::b.2))) ?_ rfl rfl);unfold aZ;rw [bW e1 ((au (x:=.new [md y]) (y:=.d (.list (b.2.map md))) (CC rfl) ((au (x:=.d (qT b)) (y:=.d (.int 1)) rfl rfl).trans (a5 rfl))).trans (hW rfl rfl rfl (by rw [List.length_map]; simp only [List.length_cons,List.length_nil]; lia)))];rfl
   ·rw [Lr LM] at ht;rw [if_neg fun z=>LM z.2];exact xT ht rfl
 ·refine ⟨some (.d (.list ((tl y).map pr))),some (.d (.int (bZ r (tl y):Int))),x8,x9,x10,?_⟩;rw [if_neg fun z=>h0 z.1];refine hU (δ':=bδ ms r j f (some (.d (.int (k:Int)))) (some (.d (md y))) (some (.own ((tl y).map pr))) x7 x8 x9 x10) (fL (x:=.new ((tl y).map pr)) (aY (n:=1) (bj (x:=.d (md y)) rfl) rfl rfl g.law) rfl rfl) ?_;show bH _ _ (bδ ms r j f (some (.d (.int (k:Int)))) (some (.d (md y))) (some (.d (.list ((tl y).map pr)))) x7 x8 x9 x10)=_;refine hU (δ':=bδ ms r j f (some (.d (.int (k:Int)))) (some (.d (md y))) (some (.d (.list ((tl y).map pr)))) (some (.d (.int (bZ r (tl y):Int)))) x8 x9 x10) (fL (x:=.d (.int (bZ r (tl y):Int))) (aY (n:=2) (bW (x:=.d (.list (r.map pr))) (y:=.d (.list ((tl y).map pr))) rfl rfl) rfl rfl (nz r (tl y) g.len)) rfl rfl) ?_;exact xT (aU ((au (x:=.d (.int (bZ r (tl y):Int))) (y:=.d (.int j)) rfl rfl).trans ((iN _ _).trans (by rw [Lr (show ¬(bZ r (tl y):Int)<=j by lia)])))) rfl
theorem yt {ms:List D} (hr:r.length<=1000):∀(zs:List Ml) (k:Nat) (f:Int×List Ml) (x4 x5 x6 x7 x8 x9 x10:Option DV),(∀y∈zs,Mg y)->k<=ms.length->ms.drop k=zs.map md ->
  (∀y Nu,(y::Nu).Sublist zs->0<=jl r j (tl y)->mb [.d (.list ((y::Nu).map md)),.d (.list ((av r (tl y)).map pr)),.d (.int (jl r j (tl y)))]=rt (.d (qT (B (y::Nu) (av r (tl y)) (jl r j (tl y)))))/\(B (y::Nu) (av r (tl y)) (jl r j (tl y))).2.length<=1000) ->
  ∃q4 q5 q6 q7 q8 q9 OP,dU (nq 2 (dE (aq 4) (dE (aq 5) n4))) (bB mb) (n8 k (zs.map md)) (bδ ms r j f x4 x5 x6 x7 x8 x9 x10)=rt (.nx (bδ ms r j (vE B r j zs f) q4 q5 q6 q7 q8 q9 OP))
 |[],k,f,x4,x5,x6,x7,x8,x9,x10,_,_,_,_=>⟨x4,x5,x6,x7,x8,x9,x10,rfl⟩
 |y::zs,k,f,x4,x5,x6,x7,x8,x9,x10,hg,hk,hd,hb=>by
  obtain ⟨q6,q7,q8,q9,OP,e1⟩:=Fi (f:=f) (x6:=x6) (x7:=x7) (x8:=x8) (x9:=x9) (x10:=x10) (hg y KU) hr hk hd (hb y zs (List.Sublist.refl _));have hk1:k<ms.length:=by
   have:=congrArg List.length hd;rw [List.length_drop,List.length_map,List.length_cons] at this;lia
  have OJ:ms.drop (k+1)=zs.map md:=by rw [<-List.drop_drop,hd]; rfl
  obtain ⟨p4,p5,p6,p7,p8,p9,p10,ih⟩:=yt hr zs (k+1) (if 0<=jl r j (tl y)/\f.1<bf r-bf (av r (tl y))+(B (y::zs) (av r (tl y)) (jl r j (tl y))).1 then (bf r-bf (av r (tl y))+(B (y::zs) (av r (tl y)) (jl r j (tl y))).1,y::(B (y::zs) (av r (tl y)) (jl r j (tl y))).2) else f) (some (.d (.int (k:Int)))) (some (.d (md y))) q6 q7 q8 q9 OP (fun z hz=>hg z (KS _ hz)) hk1 OJ (fun z Nu s=>hb z Nu (s.trans (List.sublist_cons_self y zs)));refine ⟨p4,p5,p6,p7,p8,p9,p10,?_⟩;rw [List.map_cons,n8,dU];have e0:nq 2 (dE (aq 4) (dE (aq 5) n4)) (.tuple [.int (k:Int),md y]) (bδ ms r j f x4 x5 x6 x7 x8 x9 x10)=some (bδ ms r j f (some (.d (.int (k:Int)))) (some (.d (md y))) x6 x7 x8 x9 x10):=rfl;rw [e0,a8,aE,e1,aE,pD,ih];rfl
theorem u7 {ys:List Ml} (hr:r.length<=1000) (hg:∀y∈ys,Mg y)
  (hb:∀y Nu,(y::Nu).Sublist ys->0<=jl r j (tl y)->mb [.d (.list ((y::Nu).map md)),.d (.list ((av r (tl y)).map pr)),.d (.int (jl r j (tl y)))]=rt (.d (qT (B (y::Nu) (av r (tl y)) (jl r j (tl y)))))/\(B (y::Nu) (av r (tl y)) (jl r j (tl y))).2.length<=1000) :
  fU mb [.d (.list (ys.map md)),.d (.list (r.map pr)),.d (.int j)]=rt (.d (qT (vE B r j ys (0,[])))):=by
 obtain ⟨q4,q5,q6,q7,q8,q9,OP,e⟩:=yt (ms:=ys.map md) (j:=j) (mb:=mb) (B:=B) hr ys 0 (0,[]) none none none none none none none hg (Lo _) rfl hb;unfold fU;refine eF (x:=.d (qT (vE B r j ys (0,[])))) ?_;unfold nQ;refine hU (δ':=bδ (ys.map md) r j (0,[]) none none none none none none none) rfl ?_;refine hU (δ':=bδ (ys.map md) r j (vE B r j ys (0,[])) q4 q5 q6 q7 q8 q9 OP) (jM (xs:=n8 0 (ys.map md)) rfl e) ?_;exact bG rfl
end
theorem ve {B:List Ml->List Tl->Int->Int×List Ml} {r:List Tl} {j:Int}:∀(ys:List Ml) (f:Int×List Ml),(∀y∈ys,¬0<=jl r j (tl y))->vE B r j ys f=f
 |[],_,_=>rfl
 |y::ys,f,h=>by
  unfold vE;rw [if_neg fun z=>h y KU z.1];exact ve ys f fun z hz=>h z (KS _ hz)
theorem Hq:∀(n:Nat) (ys:List Ml) (r:List Tl) (j:Int),(LB n ys r j).2.length<=n:=by
 have go:∀(n:Nat) (B:List Ml->List Tl->Int->Int×List Ml) (r:List Tl) (j:Int),(∀ys r j,(B ys r j).2.length<=n)->∀(ys:List Ml) (f:Int×List Ml),f.2.length<=n+1->(vE B r j ys f).2.length<=n+1:=fun n B r j hB ys=>by
  induction ys with
  |nil=>intro f h; exact h
  |cons y ys ih=>
   intro f h;unfold vE;refine ih _ ?_;split
   ·show (_::_).length<=_;rw [List.length_cons];have:=hB (y::ys) (av r (tl y)) (jl r j (tl y));lia
   ·exact h
 intro n
 induction n with
 |zero=>intro ys r j; exact K2 _
 |succ n ih=>intro ys r j; exact go n (LB n) r j ih ys (0,[]) (Lo _)
structure LbOk (n:Nat) (ys:List Ml) (r:List Tl) (j:Int):Prop where
 mg:∀y∈ys,Mg y
 len:r.length<=n
 j2:j<=2
noncomputable def G5 (q:List Ml×List Tl×Int):List DV:=[.d (.list (q.1.map md)),.d (.list (q.2.1.map pr)),.d (.int q.2.2)]
theorem xV {α β:Type} {f:α->β} (hf:∀{x y},f x=f y->x=y):∀{xs ys:List α},xs.map f=ys.map f->xs=ys
 |[],[],_=>rfl
 |[],_::_,h=>by cases h
 |_::_,[],h=>by cases h
 |x::xs,y::ys,h=>by
  rw [List.map_cons,List.map_cons] at h;have h1:=List.cons.inj h;rw [hf h1.1,xV hf h1.2]
theorem Eo {q q':List Ml×List Tl×Int} (h:G5 q=G5 q'):q=q':=by
 obtain ⟨a,b,c⟩:=q;obtain ⟨a',b',c'⟩:=q';unfold G5 at h;have h1:=List.cons.inj h;have h2:=List.cons.inj h1.2;have h3:=List.cons.inj h2.2;have e1:a.map md=a'.map md:=PyData.list.inj (DV.d.inj h1.1);have e2:b.map pr=b'.map pr:=PyData.list.inj (DV.d.inj h2.1);have e3:c=c':=PyData.int.inj (DV.d.inj h3.1);have t1:eW (b.map pr)=some b:=jr b;have t2:eW (b'.map pr)=some b':=jr b';have e2':b=b':=Lw (by rw [<-t1,<-t2,e2]);rw [xV CM e1,e2',e3]
open Classical in
noncomputable def jU (n:Nat) (xs:List DV):M DV:=if h:∃q,xs=G5 q/\LbOk n q.1 q.2.1 q.2.2 then rt (.d (qT (LB n h.choose.1 h.choose.2.1 h.choose.2.2))) else none
variable {n:Nat}
theorem FG {ys:List Ml} {r:List Tl} {j:Int} (o:LbOk n ys r j):jU n [.d (.list (ys.map md)),.d (.list (r.map pr)),.d (.int j)]=rt (.d (qT (LB n ys r j))):=by
 have h:∃q,G5 (ys,r,j)=G5 q/\LbOk n q.1 q.2.1 q.2.2:=⟨(ys,r,j),rfl,o⟩;show jU n (G5 (ys,r,j))=_;unfold jU;rw [dif_pos h];have e:=Eo h.choose_spec.1;rw [<-e]
variable {xs:List DV} {x:DV}
theorem FA (h:jU n xs=some (.ok x)):∃ys r j,xs=[.d (.list (ys.map md)),.d (.list (r.map pr)),.d (.int j)]/\LbOk n ys r j/\x=.d (qT (LB n ys r j)):=by
 unfold jU at h;split at h
 ·rename_i hq;cases h;exact ⟨_,_,_,hq.choose_spec.1,hq.choose_spec.2,rfl⟩
 ·cases h
theorem DT (h:jU 0 xs=some (.ok x)):fU (fun _=>none) xs=some (.ok x):=by
 obtain ⟨ys,r,j,rfl,o,rfl⟩:=FA h;have hr:r=[]:=Lz (Nat.le_zero.mp o.len);have hn:∀y∈ys,¬0<=jl r j (tl y):=fun y hy h0=>by
  have:=iX h0 o.j2 (o.mg y hy).three;rw [hr] at this;simp at this
 rw [u7 (B:=fun _ _ _=>(0,[])) (Lp o.len 0x3) o.mg fun y Nu s h0=>absurd h0 (hn y (s.subset KU)),ve _ _ hn];rfl
theorem EB (hn:n<=900) (h:jU (n+1) xs=some (.ok x)):fU (jU n) xs=some (.ok x):=by
 obtain ⟨ys,r,j,rfl,o,rfl⟩:=FA h;have hl:=o.len;rw [u7 (B:=LB n) 0x1 o.mg fun y Nu s h0=>⟨FG ⟨fun z hz=>o.mg z (s.subset hz),?_,Ly (sj _ _ _) o.j2⟩,?_⟩]
 ·rfl
 ·have:=iX h0 o.j2 (o.mg y (s.subset KU)).three;lia
 ·exact Lp (Hq n _ _ _) 0x1
theorem mg_of {m c:Nat} (hm:m<=13) (h1:1<=c) (h4:c<=4) {y:Ml} (hy:y∈uh m c):Mg y:=by
 obtain ⟨ok,_⟩:=Cd hm h1 h4 hy;have hA:tl y∈GN m c:=Lf.mpr ⟨y,hy,rfl⟩;have hl:=sM hm h1 h4 hA;refine ⟨ok.law,hl.1,0x1,(B5 h1 h4 hA).imp fun {a b} h e=>?_⟩;subst e;unfold GR at h;lia
theorem zP {m c:Nat} (hm:m<=13) (h1:1<=c) (h4:c<=4) {h:List Tl} {j:Int} (H:Hand m c h j):dP (jU 12) [.d (.int (m:Int)),.d (.int (c:Int)),.d (.list (h.map pr)),.d (.int j)]=rt (.d (qT (GW m c h j,BL m c h j))):=by
 have hl:=sP hm h4;have hlb:LB 12 (qH m c h j) h j=(GW m c h j,BL m c h j):=by
  have T:=t7 hm h1 h4 h j;rw [vN T 12 (qH m c h j) [] h j (fun y hy=>Lf.mpr ⟨y,hy,rfl⟩) (fun w hw=>.inr hw) H.len (by have:=H.len; lia) H.stt H.one (fun _ _ _ _ _ h=>nomatch h) rfl];rfl
 unfold dP;refine eF (x:=.d (qT (GW m c h j,BL m c h j))) ?_;unfold j5;refine hU (δ':=[some (.d (.int (m:Int))),some (.d (.int (c:Int))),some (.d (.list (h.map pr))),some (.d (.int j)),some (.own ((qH m c h j).map md))]) (fL (x:=.new ((qH m c h j).map md)) ?_ rfl rfl) ?_
 ·refine bb (xs:=(uh m c).map md) (sG (aY (n:=2) (x:=.new ((uh m c).map md)) (bW (x:=.d (.int (m:Int))) (y:=.d (.int (c:Int))) rfl rfl) rfl rfl (by rw [tY]; exact uV m c hm h1 h4))) (by rw [List.length_map]; lia) ?_;refine dh (f:=md) (b:=fun y=>decide (0<=jl h j (tl y))) (g:=md) fun y hy=>⟨?_,rfl⟩;have g:=mg_of hm h1 h4 hy;have hj:=yb (r:=h) g.nd j;refine aU ((au (x:=.d (.int (bZ h (tl y):Int))) (y:=.d (.int j)) ?_ rfl).trans ((iN _ _).trans ?_))
  ·exact aY (n:=2) (bW (x:=.d (.list (h.map pr))) (y:=.new ((tl y).map pr)) rfl (aY (n:=1) (bj (x:=.d (md y)) rfl) rfl rfl g.law)) rfl rfl (nz h (tl y) g.len)
  ·rw [show decide ((bZ h (tl y):Int)<=j)=decide (0<=jl h j (tl y)) from decide_eq_decide.mpr 0x1]
 ·show bt _ [some (.d (.int (m:Int))),some (.d (.int (c:Int))),some (.d (.list (h.map pr))),some (.d (.int j)),some (.d (.list ((qH m c h j).map md)))]=_;refine bG (aY (n:=3) (fW (x:=.d (.list ((qH m c h j).map md))) (y:=.d (.list (h.map pr))) (z:=.d (.int j)) rfl rfl rfl) rfl rfl ?_);rw [FG (ys:=qH m c h j) ⟨fun y hy=>mg_of hm h1 h4 (Li.mp hy).1,H.len,H.j2⟩,hlb]
open PyProof.Rows hiding St
theorem Fq {x y:D} (hx:(kT x).isSome=true) (hy:(kT y).isSome=true):cD true x y=some (ll (kO x) (kO y)):=by
 obtain ⟨k,e⟩:=Lk.mp hx;obtain ⟨k',e'⟩:=Lk.mp hy;have h1:kO x=k:=by show (kT x).getD []=k; rw [e]; rfl
 have h2:kO y=k':=by show (kT y).getD []=k'; rw [e']; rfl
 rw [h1,h2,pj e,pj e',cD];exact oA k k'
theorem C9 {x:D} (hx:(kT x).isSome=true):iD x=true:=by
 obtain ⟨k,e⟩:=Lk.mp hx;rw [pj e,iD];exact sW k
theorem DJ {ys:List D} (h:∀y∈ys,(kT y).isSome=true/\(kO y).length≠0) (hl:ys.length<=10000):Cmp2 ys:=
 ⟨fun y hy=>C9 (h y hy).1,fun x hx y hy=>by rw [Fq (h x hx).1 (h y hy).1]; rfl,.inl fun y hy=>by
  obtain ⟨k,e⟩:=Lk.mp (h y hy).1;have h1:kO y=k:=by show (kT y).getD []=k; rw [e]; rfl
  have h2:=(h y hy).2;rw [h1] at h2;rw [pj e];cases k with
  |nil=>exact absurd rfl h2
  |cons i r=>exact ⟨i,_,rfl⟩,fun y hy=>by
  obtain ⟨k,e⟩:=Lk.mp (h y hy).1;rw [pj e,PyData.depth];have:=tT k;lia,hl⟩
theorem Bo {ys:List D} (h:∀y∈ys,(kT y).isSome=true):uj ys=Ax ys:=by
 have h':∀y∈uj ys,(kT y).isSome=true:=fun y hy=>h y ((dY ys).mem_iff.mp hy);refine yY ((dY ys).trans (i9 ys).symm) ?_ (oK ys) h';refine List.Pairwise.imp_of_mem (fun {a b} ha hb Nj=>?_) (mh ys);rw [wJ (C9 (h' b hb)) (C9 (h' a ha)) (Fq (h' b hb) (h' a ha))] at Nj;exact Nj
theorem Im {r:Except Value DV} (e:lD xs=some r):pX xs=some r:=by
 unfold lD at e;split at e
 ·obtain ⟨ys,e1,e2⟩:=bQ e;split at e2
  ·rename_i hz;have hk:∀y∈ys,(kT y).isSome=true/\(kO y).length≠0:=fun y hy=>by
    have:=List.all_eq_true.mp hz.2 y hy;rw [Bool.and_eq_true] at this;exact ⟨this.1,of_decide_eq_true this.2⟩
   unfold pX;simp only [e1,a8,aE];rw [if_pos (DJ hk 0x1),Bo fun y hy=>(hk y hy).1];exact e2
  ·cases e2
 ·cases e
theorem gS {X:Cx} {E:XK} (hu:X.A.units+64<cLine):d4 X E (.builtin "sorted") lD:=fun pins s σ O P H₀ H xs vs us r Q I hd hs rx rv e q=>pJ hu pins s σ O P H₀ H xs vs us r Q I hd hs rx rv (Im e) q
end LW
namespace K6
open PySem PySem.Spec L2 L3 LW
open PyProof.Rows hiding St
noncomputable def jB (i:Nat):Stmt:=PySem.Challenge.pw_meldhouse_k06_going_out.main.body.getD i (.Pass ⟨0,0,0,0⟩)
structure Tx (K:Lb) (mg:Str->Option Value) (C:Addr):Prop where
 cl:Cls K C
 n_colours:eR K C "colours"
 n_most:eR K C "most"
 i_LEAST_NUMBERS:∃t,mg "LEAST_NUMBERS" = some (.int 3 t)
 i_MOST_NUMBERS:∃t,mg "MOST_NUMBERS" = some (.int 13 t)
 i_LEAST_COLOURS:∃t,mg "LEAST_COLOURS" = some (.int 1 t)
 i_MOST_COLOURS:∃t,mg "MOST_COLOURS" = some (.int 4 t)
 i_MOST_TILES:∃t,mg "MOST_TILES" = some (.int 12 t)
 i_MOST_ALIKE:∃t,mg "MOST_ALIKE" = some (.int 2 t)
 i_MOST_JOKERS:∃t,mg "MOST_JOKERS" = some (.int 2 t)
 i_LEAST_SIZE:∃t,mg "LEAST_SIZE" = some (.int 3 t)
 b_all:mg "all" = none
 b_bool:mg "bool" = none
 b_enumerate:mg "enumerate" = none
 b_int:mg "int" = none
 b_isinstance:mg "isinstance" = none
 b_len:mg "len" = none
 b_list:mg "list" = none
 b_min:mg "min" = none
 b_range:mg "range" = none
 b_sorted:mg "sorted" = none
 b_sum:mg "sum" = none
 b_tuple:mg "tuple" = none
structure Rx (K:Lb) (mg:Str->Option Value) (K7 K8 K9 La:Addr):Prop where
 x_BadHand:Xc K mg "BadHand" K7
 x_BadLaying:Xc K mg "BadLaying" K9
structure Tt (K:Lb) (CT:Addr):Prop where
 cl:Cls K CT
 n_by_least:eR K CT "by_least"
 n_known:eR K CT "known"
def Cv (K:Lb) (C:Addr) (m ql:Str) (st:Stmt) (ps:List Str):Prop:=∃f fd,Fun K m ql st f fd/\Meth K C m f/\gi K fd ps []
theorem Cv.has {P:Program} {w:World} {K:Lb} {mg:Str->Option Value} {base:Heap} {C:Addr} {m ql:Str} {st:Stmt} {ps:List Str} {k n:Nat} {fm:List DV->M DV} (D:Cv K C m ql st ps) (no:∀v u:V,([("by_least",v),("known",u)]:List (Str×V)).lookup m=none) (h:∀f fd,Fun K m ql st f fd->FnOk P w K mg base uH k f fd ps (Ep n fm)):HasM P w K mg base k C m n fm:=by
 obtain ⟨f,fd,Fu,hm,hb⟩:=D;exact ⟨⟨f,fd,ps,h f fd Fu,hm,hb⟩,no⟩
abbrev JX (P:Program) (w:World) (K:Lb) (mg:Str->Option Value) (base:Heap) (C K8:Addr):Prop:=Hs P w K mg base "House" C K8 jK "most" "colours"
local macro_rules|`(0x63)=>`(by dsimp only [aQ]; decide +kernel)
local macro_rules|`(0x62)=>`(⟨rfl,0x2,0x2,0x2,rfl,0x2⟩)
local macro_rules|`(0x61)=>`(⟨rfl,rfl,rfl,0x2,rfl,0x2,0x2⟩)
section
variable {P:Program} {w:World} {K:Lb} {mg:Str->Option Value} {base:Heap}
noncomputable abbrev iV:Stmt:=jB 15
theorem o8:FnScope ["house", "tile"] ["house", "tile"] (ak iV):=0x61
noncomputable abbrev eO:Stmt:=jB 16
theorem mE:FnScope ["house", "found", "number"] ["house"] (ak eO):=0x61
noncomputable abbrev dA:Stmt:=jB 17
theorem jP:FnScope ["row"] ["row"] (ak dA):=0x61
noncomputable abbrev gz:Stmt:=jB 18
theorem qF:FnScope ["house", "hand", "jokers"] ["house", "hand", "jokers"] (ak gz):=0x61
noncomputable abbrev eZ:Stmt:=jB 19
theorem kY:FnScope ["house", "hand", "jokers"] ["house", "hand", "jokers"] (ak eZ):=0x61
noncomputable abbrev kj:Stmt:=jB 22
theorem sh:FnScope ["house", "colour", "first", "size", "last"] ["house", "colour", "first", "size"] (ak kj):=0x61
noncomputable abbrev eG:Stmt:=jB 23
theorem nU:FnScope ["house", "number", "colours"] ["house", "number", "colours"] (ak eG):=0x61
noncomputable abbrev ja:Stmt:=jB 24
theorem qi:FnScope ["house", "meld"] ["house", "meld"] (ak ja):=0x61
noncomputable abbrev eI:Stmt:=jB 25
theorem nY:FnScope ["house", "meld"] ["house", "meld"] (ak eI):=0x61
noncomputable abbrev bS:Stmt:=jB 26
theorem hZ:FnScope ["house", "choices", "colour"] ["house"] (ak bS):=0x61
noncomputable abbrev dX:Stmt:=jB 27
theorem kS:FnScope ["house", "choices", "found", "number"] ["house"] (ak dX):=0x61
noncomputable abbrev fG:Stmt:=jB 28
theorem nS:FnScope ["house", "found", "colour", "first", "room"] ["house"] (ak fG):=0x61
noncomputable abbrev mF:Stmt:=jB 29
theorem vH:FnScope ["house"] ["house"] (ak mF):=0x61
noncomputable abbrev i4:Stmt:=jB 31
theorem pF:FnScope ["tiles", "jokers", "wanted", "rest", "tile", "from_hand"] ["tiles", "jokers", "wanted"] (ak i4):=0x61
noncomputable abbrev bT:Stmt:=jB 33
theorem il:FnScope ["house", "hand", "jokers", "pairs"] ["house", "hand", "jokers"] (ak bT):=0x61
noncomputable abbrev cV:Stmt:=jB 34
theorem ir:FnScope ["playable", "by_least", "pair", "tile"] ["playable"] (ak cV):=0x61
noncomputable abbrev zI:Stmt:=oY (jB 35) 0
theorem Jl:FnScope ["self", "playable"] ["self", "playable"] (ak zI):=0x61
noncomputable abbrev jT:Stmt:=oY (jB 35) 1
theorem yw:FnScope ["self", "tiles", "jokers", "after"] ["self", "tiles", "jokers"] (ak jT):=0x61
noncomputable abbrev iQ:Stmt:=oY (jB 35) 4
theorem rT:FnScope ["self", "tiles", "jokers", "rest", "unused"] ["self", "tiles", "jokers"] (ak iQ):=0x61
noncomputable abbrev gR:Stmt:=jB 36
theorem nV:FnScope ["house", "hand", "jokers"] ["house", "hand", "jokers"] (ak gR):=0x61
noncomputable abbrev fP:Stmt:=jB 37
theorem pK:FnScope ["house", "hand", "jokers", "table", "room"] ["house", "hand", "jokers"] (ak fP):=0x61
noncomputable abbrev dN:Stmt:=jB 39
theorem jE:FnScope ["script", "k"] ["script", "k"] (ak dN):=0x61
noncomputable abbrev gY:Stmt:=jB 40
theorem nX:FnScope ["cell", "k", "many", "some", "stir"] ["cell", "k", "many"] (ak gY):=0x61
noncomputable abbrev fZ:Stmt:=jB 42
theorem mf:FnScope ["found", "due"] ["found", "due"] (ak fZ):=0x61
noncomputable abbrev dv:Stmt:=jB 43
theorem iY:FnScope ["script", "cell"] ["script"] (ak dv):=0x61
noncomputable abbrev dS:Stmt:=jB 44
theorem jx:FnScope ["tiles", "limit", "found", "tile"] ["tiles", "limit"] (ak dS):=0x61
noncomputable abbrev cE:Stmt:=jB 45
theorem jA:FnScope ["script", "start", "most", "colours", "limit", "tiles", "k", "cell", "number", "colour", "size"] ["script", "start", "most", "colours", "limit"] (ak cE):=0x61
noncomputable abbrev cW:Stmt:=jB 46
theorem hV:FnScope ["script", "hand", "cell"] ["script", "hand"] (ak cW):=0x61
noncomputable abbrev dm:Stmt:=jB 47
theorem kU:FnScope ["meld"] ["meld"] (ak dm):=0x61
noncomputable abbrev cN:Stmt:=jB 48
theorem kQ:FnScope ["most", "colours", "found", "colour", "first", "kinds", "number"] ["most", "colours"] (ak cN):=0x61
noncomputable abbrev c0:Stmt:=jB 49
theorem jD:FnScope ["rest", "tiles"] ["rest", "tiles"] (ak c0):=0x61
noncomputable abbrev dI:Stmt:=jB 50
theorem jF:FnScope ["rest", "tiles", "found", "tile"] ["rest", "tiles"] (ak dI):=0x61
noncomputable abbrev c9:Stmt:=jB 51
theorem mJ:FnScope ["some", "rest", "jokers", "found", "k", "meld", "tiles", "wanting", "behind", "gain", "more"] ["some", "rest", "jokers"] (ak c9):=0x61
noncomputable abbrev cU:Stmt:=jB 52
theorem jC:FnScope ["most", "colours", "hand", "jokers", "some"] ["most", "colours", "hand", "jokers"] (ak cU):=0x61
noncomputable abbrev fD:Stmt:=jB 53
theorem nT:FnScope ["most", "colours", "hand", "jokers"] ["most", "colours", "hand", "jokers"] (ak fD):=0x61
noncomputable def pQ (m__law_best:List DV->M DV):DS->M Out:=(bt (e2 (gx false) (e2 cb (aN (ay 4 (dP m__law_best)) (aa (af 0) (aa (af 1) (aa (af 2) (aa (af 3) ai))))) (eC (.int 0))) (aN uq (aa (aK 1 [] (iw (af 2)) (aq 0) bA (e2 cb (af 0) (eC (.int 0)))) ai))))
noncomputable def dH (m__law_best:List DV->M DV):List DV->M DV:=eE ["most", "colours", "hand", "jokers"] (pQ m__law_best)
noncomputable abbrev dz:Stmt:=jB 54
theorem ki:FnScope ["cell", "tiles", "at"] ["cell"] (ak dz):=0x61
noncomputable def kX (P:Program) (w:World) (C:Addr) (CT:Addr) (K7:Addr) (K8:Addr) (K9:Addr) (m_covers:List DV->M DV):DS->M Out:=(bH (aR 1 (aK 1 [] (lx (aa (eC (.int 12)) ai)) (aq 0) bA (aZ (aa (e2 aw (eC (.int 1)) (e2 uJ (af 0) (eC (.int 2)))) (aa (eC (.int 0)) ai))))) (bH (aR 2 (e2 iZ (af 0) (eC (.int 12)))) (bt (e2 (gx false) (aN (eB 3 (cf P w C CT K7 K9 m_covers)) (aa (EL C K8 (aa (eC (.int 6)) (aa (eC (.int 1)) ai))) (aa (e2 aw (rj (af 1) (af 2)) (qp (af 1) (e2 aw (af 2) (eC (.int 1))))) (aa (e2 iZ (e2 uJ (af 0) (eC (.int 12))) (eC (.int 2))) ai)))) (bV (aa (e2 cb (af 1) (af 2)) ai))))))
noncomputable def d8 (P:Program) (w:World) (C:Addr) (CT:Addr) (K7:Addr) (K8:Addr) (K9:Addr) (m_covers:List DV->M DV):List DV->M DV:=eE ["cell", "tiles", "at"] (kX P w C CT K7 K8 K9 m_covers)
noncomputable abbrev mH:Stmt:=jB 55
theorem AR:FnScope ["script", "most", "colours", "house", "hand", "jokers", "handed", "out", "kinds", "due", "number", "colour", "more", "lap", "found"] ["script"] (ak mH):=0x61
noncomputable def FU (P:Program) (w:World) (K:Lb) (C:Addr) (CT:Addr) (K7:Addr) (K8:Addr) (K9:Addr) (m_covers:List DV->M DV) (m__law_best:List DV->M DV):DS->M Out:=(bH (Dm (nq 2 (dE (aq 1) (dE (aq 2) n4))) (aN (ay 1 (du K)) (aa (af 0) ai))) (bH (aR 3 (EL C K8 (aa (af 1) (aa (af 2) ai)))) (bH (aR 4 (aN (ay 5 (dQ K)) (aa (af 0) (aa (eC (.int 2)) (aa (af 1) (aa (af 2) (aa (eC (.int 7)) ai))))))) (fun δ=>(bH (aR 5 (aN (ay 2 (cq K)) (aa (af 0) (aa (af 4) ai)))) (bH (aR 6 (aN u9 (aa (af 4) ai))) (fun δ=>(bH (aR 7 (aN (ay 4 (dH m__law_best)) (aa (af 1) (aa (af 2) (aa (af 4) (aa (af 5) ai)))))) (fun δ=>(bH (eQ (uL (gw (fun δ=>bd ((aN (ay 2 (iq)) (aa (aN (eB 3 (dM P w C CT K7 K9 m_covers)) (aa (af 3) (aa (af 6) (aa (af 5) ai)))) (aa (af 7) ai))) δ) bD)) (fun δ=>bd (e2 (gx true) (af 6) (af 4) δ) bD)) (bt (eC (.bool false))) bK) (bH (eQ (gw (fun δ=>bd ((aN (ay 1 (d8 P w C CT K7 K8 K9 m_covers)) (aa (aN (ay 2 (aH K)) (aa (af 0) (aa (eC (.int 21)) ai))) ai)) δ) bD)) (bt (eC (.bool false))) bK) (bH (aR 8 (rj (aK 1 [1] (lx (aa (e2 eT (af 1) (af 2)) ai)) (aq 0) bA (aZ (aa (e2 aw (eC (.int 1)) (e2 iZ (af 0) (af 1))) (aa (e2 uJ (af 0) (af 1)) ai)))) (eC (.int 6)))) (bH (eQ (jJ (fun δ=>bd (e2 (gx false) (aN cy (aa (af 8) ai)) (eC (.int 6)) δ) bD) (fun δ=>bd (e2 (gx true) (aN (eB 3 (cf P w C CT K7 K9 m_covers)) (aa (af 3) (aa (aN lD (aa (e2 aw (af 8) (af 8)) ai)) (aa (af 5) ai)))) (bV ai) δ) bD)) (bt (eC (.bool false))) bK) (bH (eQ (uL (fun δ=>bd (e2 mY (e2 eT (af 1) (af 2)) (eC (.int 12)) δ) bD) (uL (fun δ=>bd (e2 mY (aN cy (aa (af 4) ai)) (eC (.int 5)) δ) bD) (fun δ=>bd (e2 mY (af 5) (eC (.int 1)) δ) bD))) (bt (eC (.bool true))) bK) (bH (aR 9 (bV ai)) (bH (b9 (k8 (aa (eC (.int 1)) (aa (e2 aw (af 1) (eC (.int 1))) ai))) (aq 10) (b9 (lx (aa (af 2) ai)) (aq 11) (bH (aR 12 (aN lD (aa (e2 aw (af 4) (bV (aa (aZ (aa (af 10) (aa (af 11) ai))) ai))) ai))) (fun δ=>(eQ (jJ (fun δ=>bd (e2 gn (k9 (af 12) (aZ (aa (af 10) (aa (af 11) ai)))) (eC (.int 3)) δ) bD) (fun δ=>bd ((aN (ay 4 (dH m__law_best)) (aa (af 1) (aa (af 2) (aa (af 12) (aa (af 5) ai))))) δ) bD)) (nE 9 (aZ (aa (af 10) (aa (af 11) ai)))) bK) (frz 12 δ))))) (bH (b9 (lx (aa (eC (.int 2)) ai)) (aq 13) (fun δ=>(bH (aR 14 (aN (eB 3 (cf P w C CT K7 K9 m_covers)) (aa (af 3) (aa (af 6) (aa (af 5) ai))))) (bH (eQ (uL (gw (fun δ=>bd ((Gw "list" (af 14)) δ) bD)) (gw (fun δ=>bd ((aN oi (aa (aK 1 [] (Jv (af 14)) (aq 0) bA (Gw "tuple" (af 0))) ai)) δ) bD))) (bt (eC (.bool false))) bK) (bH (eQ (uL (fun δ=>bd (e2 (gx true) (af 14) (af 9) δ) bD) (fun δ=>bd (e2 (gx true) (af 6) (af 4) δ) bD)) (bt (eC (.bool false))) bK) (nE 14 (aZ (aa (eC (.int 1)) (aa (eC (.int 0)) ai))))))) (frz 6 δ))) (bt (eC (.bool true))))))))))) (frz 6 δ))) (frz 4 δ)))) (frz 4 δ)))))
noncomputable def rJ (P:Program) (w:World) (K:Lb) (C:Addr) (CT:Addr) (K7:Addr) (K8:Addr) (K9:Addr) (m_covers:List DV->M DV) (m__law_best:List DV->M DV):List DV->M DV:=eE ["script", "most", "colours", "house", "hand", "jokers", "handed", "out", "kinds", "due", "number", "colour", "more", "lap", "found"] (FU P w K C CT K7 K8 K9 m_covers m__law_best)
variable {C CT K7 K8 K9 La:Addr} (T:Tx K mg C) (R:Rx K mg K7 K8 K9 La)
include T R
theorem eL  (D:Df K mg "is_tile" iV ["house", "tile"])   : Has P w K mg base 1 "is_tile" 2 (bY C):=D.has fun f fd Fu=>lT (k:=0) Fu o8 rfl fun LD A outer s H E hr=>by
 have hu:=dC hr;have nd:=o8.nd;refine ax ?_;exact aL (nB (vF (fC hu) (fC hu) aj (bE (ag 1 (pv 1)) aj) (jd (ag 0 (pv 0)) T.cl T.n_most)) (qw (vF (fC hu) (jq hu) aj (bE (ag 1 (pv 1)) aj) (jd (ag 0 (pv 0)) T.cl T.n_colours))))
theorem jR  (D:Df K mg "all_tiles" eO ["house"])   : Has P w K mg base 1 "all_tiles" 1 (fS C):=D.has fun f fd Fu=>lT (k:=0) Fu mE rfl fun LD A outer s H E hr=>by
 have hu:=dC hr;have nd:=mE.nd;refine ar ?_ ?_
 ·refine aV (i:=1) ?_ ?_
  ·exact nd
  ·exact (b8 ah)
 ·refine ar ?_ ?_
  ·refine dR PassesOwn.never rfl ?_ (fg (i:=2) (by exact nd)) (aD 2) ?_
   ·exact (kg T.b_range (ae aj (ae (aJ aP (jd (ag 0 (pv 0)) T.cl T.n_most) aj) ah)))
   ·refine ax ?_;refine wC (pv 1) ?_;exact (bF (N':=["colour", "number"]) (CompSc.fit (sc:=ak eO) (N:=["house", "found", "number"]) 0x62) 0x3 rfl (iB T.b_range (ae (jd (ag 0 (pv 0)) T.cl T.n_colours) ah)) (aD 0) (aT 0x3) (fun _ _ _ _=>(fg (i:=0) 0x63)) (fun _ _ _ _=>cz) (fun _ _ _ _=>(bL (ae (ag 1 (pv 1)) (ae (ag 0 (pv 0)) ah)))))
  ·refine ax ?_;exact aL (ag 1 (pv 1))
theorem ix  (D:Df K mg "is_in_order" dA ["row"])   : Has P w K mg base 1 "is_in_order" 1 (dw):=D.has fun f fd Fu=>lT (k:=0) Fu jP rfl fun LD A outer s H E hr=>by
 have hu:=dC hr;have nd:=jP.nd;refine ax ?_;exact aL (aS (j4 rfl) rfl T.b_all p0 (ae (bF (N':=["k", "row"]) (CompSc.fit (sc:=ak dA) (N:=["row"]) 0x62) 0x3 rfl (kg T.b_range (ae aj (ae (aS d5 rfl T.b_len dW (ae (ag 0 (pv 0)) ah)) ah))) (aD 0) (aT 0x3) (fun _ _ _ _=>(fg (i:=0) 0x63)) (fun _ _ _ _=>cz) (fun _ _ _ _=>(jo (fC hu) (bE (ag 1 (pv 1)) (aJ g9 (ag 0 (pv 0)) aj)) (bE (ag 1 (pv 1)) (ag 0 (pv 0)))))) ah))
theorem m7  (D:Df K mg "is_hand" gz ["house", "hand", "jokers"])  (eL:Has P w K mg base 1 "is_tile" 2 (bY C)) (ix:Has P w K mg base 1 "is_in_order" 1 (dw)):Has P w K mg base 2 "is_hand" 3 (iO C):=D.has fun f fd Fu=>lT (k:=1) Fu qF rfl fun LD A outer s H E hr=>by
 have hu:=dC hr;have nd:=qF.nd;refine ar ?_ ?_
 ·refine cO ?_ ?_ ?_
  ·exact (wo.pb (rH (bx pW (aS d5 rfl T.b_len dW (ae (ag 1 (pv 1)) ah)) (ie T.i_MOST_TILES)) (qg (gf (o6 (fC hu) (fC hu) aj (ag 2 (pv 2)) (ie T.i_MOST_JOKERS))))))
  ·refine ax ?_;exact aL ig
  ·exact bR
 ·refine ar ?_ ?_
  ·refine cO ?_ ?_ ?_
   ·exact (gf (gG (aS (j4 rfl) rfl T.b_all p0 (ae (bF (N':=["tile", "house", "hand"]) (CompSc.fit (sc:=ak gz) (N:=["house", "hand", "jokers"]) 0x62) 0x3 rfl (dG (ag 1 (pv 1))) (aD 0) (aT 0x3) (fun _ _ _ _=>(fg (i:=0) 0x63)) (fun _ _ _ _=>cz) (fun _ _ _ _=>(nB (aM (eL.mono 0x3) hr (ae (ag 1 (pv 1)) (ae (ag 0 (pv 0)) ah))) (qw (jo (fC hu) (mn hu (ag 2 (pv 2)) (ag 0 (pv 0))) (ie T.i_MOST_ALIKE)))))) ah))))
   ·refine ax ?_;exact aL ig
   ·exact bR
  ·refine ax ?_;exact aL (aM (ix.mono 0x3) hr (ae (ag 1 (pv 1)) ah))
theorem eV  (D:Df K mg "check_hand" eZ ["house", "hand", "jokers"])  (m7:Has P w K mg base 2 "is_hand" 3 (iO C)):HasX P w K mg base 3 "check_hand" 3 (dk C K7):=D.hasX fun f fd Fu=>IJ (k:=2) Fu kY rfl fun LD A outer s H E hr=>by
 have hu:=dC hr;have nd:=kY.nd;refine ax ?_;refine cO ?_ ?_ ?_
 ·exact (gf (gG (aM (m7.mono 0x3) hr (by refine ae ?_ ?_; (exact (ag 0 (pv 0))); (exact (ae (ag 1 (pv 1)) (ae (ag 2 (pv 2)) ah)))))))
 ·refine ax ?_;exact uS (vk hr) R.x_BadHand
 ·exact bR
theorem qd  (D:Df K mg "is_run" kj ["house", "colour", "first", "size"])  (eL:Has P w K mg base 1 "is_tile" 2 (bY C)):Has P w K mg base 2 "is_run" 4 (jO C):=D.has fun f fd Fu=>lT (k:=1) Fu sh rfl fun LD A outer s H E hr=>by
 have hu:=dC hr;have nd:=sh.nd;refine ar ?_ ?_
 ·refine aV (i:=4) ?_ ?_
  ·exact nd
  ·exact (aJ g9 (aJ aP (ag 2 (pv 2)) (ag 3 (pv 3))) aj)
 ·refine ax ?_;exact aL (nB (jo yu (ag 3 (pv 3)) (ie T.i_LEAST_SIZE)) (nB (aM (eL.mono 0x3) hr (ae (ag 0 (pv 0)) (ae (bL (ae (ag 2 (pv 2)) (ae (ag 1 (pv 1)) ah))) ah))) (qw (aM (eL.mono 0x3) hr (ae (ag 0 (pv 0)) (ae (bL (ae (ag 4 (pv 4)) (ae (ag 1 (pv 1)) ah))) ah))))))
theorem lz  (D:Df K mg "is_group" eG ["house", "number", "colours"])  (eL:Has P w K mg base 1 "is_tile" 2 (bY C)):Has P w K mg base 2 "is_group" 3 (gZ C):=D.has fun f fd Fu=>lT (k:=1) Fu nU rfl fun LD A outer s H E hr=>by
 have hu:=dC hr;have nd:=nU.nd;refine ar ?_ ?_
 ·refine cO ?_ ?_ ?_
  ·exact (bx (jq hu) (aS d5 rfl T.b_len dW (ae (ag 2 (pv 2)) ah)) (ie T.i_LEAST_SIZE))
  ·refine ax ?_;exact aL ig
  ·exact bR
 ·refine ar ?_ ?_
  ·refine cO ?_ ?_ ?_
   ·exact (gf (gG (aS (j4 rfl) rfl T.b_all p0 (ae (bF (N':=["colour", "house", "number"]) (CompSc.fit (sc:=ak eG) (N:=["house", "number", "colours"]) 0x62) 0x3 rfl (Bj (ag 2 (pv 2))) (aD 0) (aT 0x3) (fun _ _ _ _=>(fg (i:=0) 0x63)) (fun _ _ _ _=>cz) (fun _ _ _ _=>(aM (eL.mono 0x3) hr (ae (ag 1 (pv 1)) (ae (bL (ae (ag 2 (pv 2)) (ae (ag 0 (pv 0)) ah))) ah))))) ah))))
   ·refine ax ?_;exact aL ig
   ·exact bR
  ·refine ax ?_;exact aL (aS (j4 rfl) rfl T.b_all p0 (ae (bF (N':=["k", "colours"]) (CompSc.fit (sc:=ak eG) (N:=["house", "number", "colours"]) 0x62) 0x3 rfl (kg T.b_range (ae aj (ae (aS d5 rfl T.b_len dW (ae (ag 2 (pv 2)) ah)) ah))) (aD 0) (aT 0x3) (fun _ _ _ _=>(fg (i:=0) 0x63)) (fun _ _ _ _=>cz) (fun _ _ _ _=>(jo (jq hu) (bE (ag 1 (pv 1)) (aJ g9 (ag 0 (pv 0)) aj)) (bE (ag 1 (pv 1)) (ag 0 (pv 0)))))) ah))
theorem nH  (D:Df K mg "is_meld" ja ["house", "meld"])  (qd:Has P w K mg base 2 "is_run" 4 (jO C)) (lz:Has P w K mg base 2 "is_group" 3 (gZ C)):Has P w K mg base 3 "is_meld" 2 (c7 C):=D.has fun f fd Fu=>lT (k:=2) Fu qi rfl fun LD A outer s H E hr=>by
 have hu:=dC hr;have nd:=qi.nd;refine ar ?_ ?_
 ·refine cO ?_ ?_ ?_
  ·exact (bx (i7 hu) (bE (ag 1 (pv 1)) aj) (jS 0x2))
  ·refine ax ?_;exact aL (aM (qd.mono 0x3) hr (by refine ae ?_ ?_; (exact (ag 0 (pv 0))); (exact (by refine ae ?_ ?_; (exact (bE (ag 1 (pv 1)) aj)); (exact (by refine ae ?_ ?_; (exact (bE (ag 1 (pv 1)) aj)); (exact (by refine ae ?_ ?_; (exact (bE (ag 1 (pv 1)) aj)); (exact ah)))))))))
  ·exact bR
 ·refine ax ?_;exact aL (nB (jo (i7 hu) (bE (ag 1 (pv 1)) aj) (jS 0x2)) (qw (aM (lz.mono 0x3) hr (by refine ae ?_ ?_; (exact (ag 0 (pv 0))); (exact (ae (bE (ag 1 (pv 1)) aj) (ae (bE (ag 1 (pv 1)) aj) ah)))))))
theorem lS  (D:Df K mg "tiles_of" eI ["house", "meld"])  (nH:Has P w K mg base 3 "is_meld" 2 (c7 C)):HasX P w K mg base 4 "tiles_of" 2 (cQ C K9):=D.hasX fun f fd Fu=>IJ (k:=3) Fu nY rfl fun LD A outer s H E hr=>by
 have hu:=dC hr;have nd:=nY.nd;refine ar ?_ ?_
 ·refine cO ?_ ?_ ?_
  ·exact (gf (gG (aM (nH.mono 0x3) hr (ae (ag 0 (pv 0)) (ae (ag 1 (pv 1)) ah)))))
  ·refine ax ?_;exact uS (vk hr) R.x_BadLaying
  ·exact bR
 ·refine ar ?_ ?_
  ·refine cO ?_ ?_ ?_
   ·exact (bx (i7 hu) (bE (ag 1 (pv 1)) aj) (jS 0x2))
   ·refine ax ?_;exact aL (bF (N':=["k", "meld"]) (CompSc.fit (sc:=ak eI) (N:=["house", "meld"]) 0x62) 0x3 rfl (iB T.b_range (ae (bE (ag 1 (pv 1)) aj) ah)) (aD 0) (aT 0x3) (fun _ _ _ _=>(fg (i:=0) 0x63)) (fun _ _ _ _=>cz) (fun _ _ _ _=>(bL (ae (aJ aP (bE (ag 1 (pv 1)) aj) (ag 0 (pv 0))) (ae (bE (ag 1 (pv 1)) aj) ah)))))
   ·exact bR
  ·refine ax ?_;exact aL (bF (N':=["colour", "meld"]) (CompSc.fit (sc:=ak eI) (N:=["house", "meld"]) 0x62) 0x3 rfl (Bj (bE (ag 1 (pv 1)) aj)) (aD 0) (aT 0x3) (fun _ _ _ _=>(fg (i:=0) 0x63)) (fun _ _ _ _=>cz) (fun _ _ _ _=>(bL (ae (bE (ag 1 (pv 1)) aj) (ae (ag 0 (pv 0)) ah)))))
theorem fE  (D:Df K mg "colour_choices" bS ["house"])   : Has P w K mg base 1 "colour_choices" 1 (cp C):=D.has fun f fd Fu=>lT (k:=0) Fu hZ rfl fun LD A outer s H E hr=>by
 have hu:=dC hr;have nd:=hZ.nd;refine ar ?_ ?_
 ·refine aV (i:=1) ?_ ?_
  ·exact nd
  ·exact (b8 (ae (bL ah) ah))
 ·refine ar ?_ ?_
  ·refine dR PassesOwn.never rfl ?_ (fg (i:=2) (by exact nd)) (aD 2) ?_
   ·exact (iB T.b_range (ae (jd (ag 0 (pv 0)) T.cl T.n_colours) ah))
   ·refine dg 1 ?_;refine ax ?_;refine aV (i:=1) ?_ ?_
    ·exact nd
    ·exact (aJ aP (ag 1 (pv 1)) (bF (N':=["choice", "colour"]) (CompSc.fit (sc:=ak bS) (N:=["house", "choices", "colour"]) 0x62) 0x3 rfl (dG (ag 1 (pv 1))) (aD 0) (aT 0x3) (fun _ _ _ _=>(fg (i:=0) 0x63)) (fun _ _ _ _=>cz) (fun _ _ _ _=>(aJ aP (ag 0 (pv 0)) (bL (ae (ag 1 (pv 1)) ah))))))
  ·refine dg 1 ?_;refine ax ?_;exact aL (aS (gS hu) rfl T.b_sorted gA (ae (bF (N':=["choice"]) (CompSc.fit (sc:=ak bS) (N:=["house", "choices", "colour"]) 0x62) 0x3 rfl (dG (ag 1 (pv 1))) (aD 0) (aT 0x3) (fun _ _ _ _=>(fg (i:=0) 0x63)) (fun _ _ _ _=>jf (bx yu (aS d5 rfl T.b_len dW (ae (ag 0 (pv 0)) ah)) (ie T.i_LEAST_SIZE))) (fun _ _ _ _=>(ag 0 (pv 0)))) ah))
theorem jh  (D:Df K mg "all_groups" dX ["house"])  (fE:Has P w K mg base 1 "colour_choices" 1 (cp C)):Has P w K mg base 2 "all_groups" 1 (d0 C):=D.has fun f fd Fu=>lT (k:=1) Fu kS rfl fun LD A outer s H E hr=>by
 have hu:=dC hr;have nd:=kS.nd;refine ar ?_ ?_
 ·refine aV (i:=1) ?_ ?_
  ·exact nd
  ·exact (aM (fE.mono 0x3) hr (ae (ag 0 (pv 0)) ah))
 ·refine ar ?_ ?_
  ·refine aV (i:=2) ?_ ?_
   ·exact nd
   ·exact (b8 ah)
  ·refine ar ?_ ?_
   ·refine dR PassesOwn.never rfl ?_ (fg (i:=3) (by exact nd)) (aD 3) ?_
    ·exact (kg T.b_range (ae aj (ae (aJ aP (jd (ag 0 (pv 0)) T.cl T.n_most) aj) ah)))
    ·refine dg 1 ?_;refine ax ?_;refine wC (pv 2) ?_;exact (bF (N':=["choice", "number"]) (CompSc.fit (sc:=ak dX) (N:=["house", "choices", "found", "number"]) 0x62) 0x3 rfl (dG (ag 1 (pv 1))) (aD 0) (aT 0x3) (fun _ _ _ _=>(fg (i:=0) 0x63)) (fun _ _ _ _=>cz) (fun _ _ _ _=>(by refine bL ?_; (exact (by refine ae ?_ ?_; (exact (jS 0x2)); (exact (ae (ag 1 (pv 1)) (ae (ag 0 (pv 0)) ah))))))))
   ·refine ax ?_;exact aL (ag 2 (pv 2))
theorem lu  (D:Df K mg "all_runs" fG ["house"])   : Has P w K mg base 1 "all_runs" 1 (fN C):=D.has fun f fd Fu=>lT (k:=0) Fu nS rfl fun LD A outer s H E hr=>by
 have hu:=dC hr;have nd:=nS.nd;refine ar ?_ ?_
 ·refine aV (i:=1) ?_ ?_
  ·exact nd
  ·exact (b8 ah)
 ·refine ar ?_ ?_
  ·refine dR PassesOwn.never rfl ?_ (fg (i:=2) (by exact nd)) (aD 2) ?_
   ·exact (iB T.b_range (ae (jd (ag 0 (pv 0)) T.cl T.n_colours) ah))
   ·refine ax ?_;refine dR PassesOwn.never rfl ?_ (fg (i:=3) (by exact nd)) (aD 3) ?_
    ·exact (kg T.b_range (ae aj (ae (aJ aP (jd (ag 0 (pv 0)) T.cl T.n_most) aj) ah)))
    ·refine ar ?_ ?_
     ·refine aV (i:=4) ?_ ?_
      ·exact nd
      ·exact (aJ aP (aJ g9 (jd (ag 0 (pv 0)) T.cl T.n_most) (ag 3 (pv 3))) aj)
     ·refine ax ?_;refine wC (pv 1) ?_;exact (bF (N':=["size", "colour", "first"]) (CompSc.fit (sc:=ak fG) (N:=["house", "found", "colour", "first", "room"]) 0x62) 0x3 rfl (kg T.b_range (ae (ie T.i_LEAST_SIZE) (ae (aJ aP (ag 4 (pv 4)) aj) ah))) (aD 0) (aT 0x3) (fun _ _ _ _=>(fg (i:=0) 0x63)) (fun _ _ _ _=>cz) (fun _ _ _ _=>(by refine bL ?_; (exact (by refine ae ?_ ?_; (exact (jS 0x2)); (exact (by refine ae ?_ ?_; (exact (ag 1 (pv 1))); (exact (by refine ae ?_ ?_; (exact (ag 2 (pv 2))); (exact (by refine ae ?_ ?_; (exact (ag 0 (pv 0))); (exact ah))))))))))))
  ·refine ax ?_;exact aL (ag 1 (pv 1))
theorem sX  (D:Df K mg "melds" mF ["house"])  (jh:Has P w K mg base 2 "all_groups" 1 (d0 C)) (lu:Has P w K mg base 1 "all_runs" 1 (fN C)):Has P w K mg base 3 "melds" 1 (mG C):=D.has fun f fd Fu=>lT (k:=2) Fu vH rfl fun LD A outer s H E hr=>by
 have hu:=dC hr;have nd:=vH.nd;refine ax ?_;exact aL (aJ aP (aM (jh.mono 0x3) hr (ae (ag 0 (pv 0)) ah)) (aM (lu.mono 0x3) hr (ae (ag 0 (pv 0)) ah)))
theorem iR  (D:Df K mg "lay_out" i4 ["tiles", "jokers", "wanted"])   : Has P w K mg base 1 "lay_out" 3 (eP):=D.has fun f fd Fu=>lT (k:=0) Fu pF rfl fun LD A outer s H E hr=>by
 have hu:=dC hr;have nd:=pF.nd;refine ar ?_ ?_
 ·refine aV (i:=3) ?_ ?_
  ·exact nd
  ·exact (iW sV rfl T.b_list oV (ae (ag 0 (pv 0)) ah))
 ·refine ar ?_ ?_
  ·refine dR PassesOwn.never rfl ?_ (fg (i:=4) (by exact nd)) (aD 4) ?_
   ·exact (dG (ag 2 (pv 2)))
   ·refine ax ?_;refine cO ?_ ?_ ?_
    ·exact (bx (FC hu) (ag 4 (pv 4)) (ag 3 (pv 3)))
    ·refine ax ?_;refine BX hu (pv 3) ?_;exact (ag 4 (pv 4))
    ·exact bR
  ·refine ar ?_ ?_
   ·refine aV (i:=5) ?_ ?_
    ·exact nd
    ·exact (aJ g9 (aS d5 rfl T.b_len dW (ae (ag 0 (pv 0)) ah)) (aS d5 rfl T.b_len dW (ae (ag 3 (pv 3)) ah)))
   ·refine ax ?_;exact aL (DA (ae (ag 3 (pv 3)) (ae (aJ g9 (ag 1 (pv 1)) (aJ g9 (aS d5 rfl T.b_len dW (ae (ag 2 (pv 2)) ah)) (ag 5 (pv 5)))) ah)))
theorem cX  (D:Df K mg "playable_melds" bT ["house", "hand", "jokers"])  (sX:Has P w K mg base 3 "melds" 1 (mG C)) (lS:HasX P w K mg base 4 "tiles_of" 2 (cQ C K9)) (iR:Has P w K mg base 1 "lay_out" 3 (eP)):HasX P w K mg base 5 "playable_melds" 3 (bU C K9):=D.hasX fun f fd Fu=>IJ (k:=4) Fu il rfl fun LD A outer s H E hr=>by
 have hu:=dC hr;have nd:=il.nd;refine ar ?_ ?_
 ·refine l5 (i:=3) (N':=["meld", "house"]) (CompSc.fit (sc:=ak bT) (N:=["house", "hand", "jokers", "pairs"]) 0x62) 0x3 rfl (by exact nd) (dG (aM (sX.mono 0x3) hr (ae (ag 0 (pv 0)) ah))) (aD 0) (aT 0x3) (fun _ _ _ _=>(fg (i:=0) 0x63)) (fun _ _ _ _=>cz) (fun _ _ _ _=>(bL (ae (ag 0 (pv 0)) (ae (by refine gj (lS.mono 0x3) hr lR ?_; exact (ae (ag 1 (pv 1)) (ae (ag 0 (pv 0)) ah))) ah))))
 ·refine dg 3 ?_;refine ax ?_;exact aL (bF (N':=["pair", "hand", "jokers"]) (CompSc.fit (sc:=ak bT) (N:=["house", "hand", "jokers", "pairs"]) 0x62) 0x3 rfl (dG (ag 3 (pv 3))) (aD 0) (aT 0x3) (fun _ _ _ _=>(fg (i:=0) 0x63)) (fun _ _ _ _=>jf (bx yu (bE (Ga (aM (iR.mono 0x3) hr (by refine ae ?_ ?_; (exact (ag 1 (pv 1))); (exact (ae (ag 2 (pv 2)) (ae (bE (ag 0 (pv 0)) aj) ah)))))) aj) aj)) (fun _ _ _ _=>(ag 0 (pv 0))))
theorem fJ (D:Df K mg "tiles_by_least" cV ["playable"]):Has P w K mg base 1 "tiles_by_least" 1 (Bm P w):=D.has fun f fd Fu=>by
 refine Fu.ok (k:=0) ir (fun vs H Q E h=>h.1) fun LD A outer s H vs Q E hr MK=>?_;have hu:=dC hr;have nd:=ir.nd;refine ⟨_,EH (fi1:=iw (af 0)) (fi2:=iw (rj (e2 cb (af 2) (eC (.int 1))) (e2 aw (eC (.int 2)) (eC (.int 1))))) (fp:=e2 cb (af 2) (eC (.int 1))) PassesOwn.never rfl ?_ (dG (ag 0 (pv 0))) (fg (i:=2) (by exact nd)) (by intro _; rfl)
  (dG (sY (bE (ag 2 (pv 2)) aj) (aJ aP (ie T.i_MOST_JOKERS) aj))) (fg (i:=3) (by exact nd)) (HR (vi PySem.F.plainAttrs_list PySem.F.slot_list_append PySem.F.type_list_append sA (IG (IE hu) (pv 1) (pv 3) (AY lP)) (kG (bE (E:=E0) (ag 2 (pv 2)) aj) lP))) (by intro _; rfl) (pv 1) (fun xs c d=>rfl) ?_ ?_,?_⟩
 ·exact BN (i:=1) nd rfl (by first|exact Or.inl rfl|exact Or.inr rfl) E7
 ·intro a c m ts; rw [<-IF]; rfl
 ·intro a c m ts; rfl
 ·obtain ⟨_,O,xs,x,dom,rx,e,q⟩:=MK;unfold Bm at e;split at e
  ·rename_i ps;obtain ⟨LF,e1,e2⟩:=bQ e;split at e2
   ·rename_i hl;cases e2;exact ⟨O,ps,LF,RS.start (N:=["playable", "by_least", "pair", "tile"]) dom rx,e1,hl,q⟩
   ·cases e2
  ·cases e
theorem Gg {fM:PyData->Option Int} {UM:List PyData} (TT:Tt K CT) (fJ:Has P w K mg base 1 "tiles_by_least" 1 (Bm P w)) {f:Addr} {fd:FuncData} (Fu:Fun K "__init__" "Table.__init__" zI f fd):FnOk P w K mg base uH 2 f fd ["self", "playable"] (Jy P w CT fM UM):=by
 refine Fu.ok (k:=1) Jl (fun vs H Q E h=>?_) fun LD A outer s H vs Q E hr MK=>⟨_,gX (tH (pv 0) (aM (E:=E0) fJ hr (ae (ag 1 (pv 1)) ah)) rfl) (ic (tH (pv 0) (Du (f:=fM) (U:=UM)) rfl)),?_⟩
 ·obtain ⟨p,dx,v,O,xs,LF,rfl,_⟩:=h;rfl
 ·have hv:∃a b,vs=[a,b]:=by
   obtain ⟨p,dx,v,O,xs,LF,rfl,_⟩:=MK;exact ⟨_,_,rfl⟩
  obtain ⟨a,b,rfl⟩:=hv;refine zJ (X:=(fj uH P w K mg base ["self", "playable"] "Table.__init__" (ak zI) f LD A outer s H E).nox) (C:=CT) (f:=fM) (U:=UM) TT.cl TT.n_by_least TT.n_known MK fun xs LF e hl=>?_;show bd (op (args [DV.d (.list xs)])) (fun ys=>if ys.length=1 then Gk (Bm P w ys) else none)=_;rw [show args [DV.d (.list xs)]=some [DV.d (.list xs)] from rfl];show Gk (Bm P w [DV.d (.list xs)])=_;show Gk (bd (op (gO xs)) fun LF=>if LF.length<=1000 then rt (DV.fz (.dl P w (lQ LF))) else none)=_;rw [e];show Gk (if LF.length<=1000 then _ else none)=_;rw [if_pos hl]; rfl
theorem wB {k:Nat} (TT:Tt K CT) (D:Cv K CT "ways" "Table.ways" jT ["self", "tiles", "jokers"])   (iR:Has P w K mg base 1 "lay_out" 3 (eP)):HasM P w K mg base (k+11) CT "ways" 3 (m9 P w CT):=D.has (yr 0x2 0x2) fun f fd Fu=>lT (k:=k+10) Fu yw rfl fun LD A outer s H E hr=>by
 have hu:=dC hr;have nd:=yw.nd;refine ar ?_ ?_
 ·refine l5 (i:=3) (N':=["wanted", "tiles", "jokers"]) (CompSc.fit (sc:=ak jT) (N:=["self", "tiles", "jokers", "after"]) 0x62) 0x3 rfl (by exact nd) (dG (ES (IE hu) TT.cl TT.n_by_least (ag 0 (pv 0)) (bE (ag 1 (pv 1)) aj) (b8 ah))) (aD 0) (aT 0x3) (fun _ _ _ _=>(fg (i:=0) 0x63)) (fun _ _ _ _=>cz) (fun _ _ _ _=>(aM (iR.mono 0x1) hr (by refine ae ?_ ?_; (exact (ag 1 (pv 1))); (exact (ae (ag 2 (pv 2)) (ae (ag 0 (pv 0)) ah))))))
 ·refine dg 3 ?_;refine ax ?_;exact aL (bF (N':=["way"]) (CompSc.fit (sc:=ak jT) (N:=["self", "tiles", "jokers", "after"]) 0x62) 0x3 rfl (dG (ag 3 (pv 3))) (aD 0) (aT 0x3) (fun _ _ _ _=>(fg (i:=0) 0x63)) (fun _ _ _ _=>jf (bx yu (bE (ag 0 (pv 0)) aj) aj)) (fun _ _ _ _=>(ag 0 (pv 0))))
theorem fY {m_ways:List DV->M DV} {m_covers:List DV->M DV} {k:Nat} (TT:Tt K CT) (D:Cv K CT "covers" "Table.covers" iQ ["self", "tiles", "jokers"]) (wB:HasM P w K mg base (k+10) CT "ways" 3 m_ways) (fY:HasM P w K mg base (k+10) CT "covers" 3 m_covers)   : HasM P w K mg base (k+11) CT "covers" 3 (gM P w CT m_ways m_covers):=D.has (yr 0x2 0x2) fun f fd Fu=>lT (k:=k+10) Fu rT rfl fun LD A outer s H E hr=>by
 have hu:=dC hr;have nd:=rT.nd;refine ar ?_ ?_
 ·refine cO ?_ ?_ ?_
  ·exact (gf (HP (ag 1 (pv 1))))
  ·refine ax ?_;exact aL ig
  ·exact bR
 ·refine ar ?_ ?_
  ·refine dR PassesOwn.never rfl ?_ (uB rfl (fX (fg (i:=3) (by exact nd)) (fX (fg (i:=4) (by exact nd)) oJ))) (ux (hX (aD 3) (hX (aD 4) t5))) ?_
   ·exact (dG (by refine oF wB (hr.mono (K2 _)) TT.cl ?_ ?_; (exact (ag 0 (pv 0))); (exact (ae (ag 1 (pv 1)) (ae (ag 2 (pv 2)) ah)))))
   ·refine ax ?_;refine cO ?_ ?_ ?_
    ·exact (gG (by refine oF fY (hr.mono (K2 _)) TT.cl ?_ ?_; (exact (ag 0 (pv 0))); (exact (ae (ag 3 (pv 3)) (ae (ag 4 (pv 4)) ah)))))
    ·refine ax ?_;exact aL ig
    ·exact bR
  ·refine ax ?_;exact aL ig
variable {m_covers:List DV->M DV}
theorem ly (D:Df K mg "goes_out" gR ["house", "hand", "jokers"]) (TT:Tt K CT) (MR:∀fM UM,HsT P w K mg base "Table" CT 2 fM UM) (fY:HasM P w K mg base 60 CT "covers" 3 m_covers)  (eV:HasX P w K mg base 3 "check_hand" 3 (dk C K7)) (cX:HasX P w K mg base 5 "playable_melds" 3 (bU C K9)):HasX P w K mg base 61 "goes_out" 3 (dM P w C CT K7 K9 m_covers):=by
 rw [pG];refine D.hasX fun f fd Fu=>Kn (fm:=fun (g:(PyData->Option Int)×List PyData)=>eE ["house", "hand", "jokers"] (jw P w C CT K7 K9 g.1 g.2 m_covers)) yL fun g=>IJ (k:=60) Fu nV rfl fun LD A outer s H E hr=>?_;have hu:=dC hr;have nd:=nV.nd;refine ar ?_ ?_
 ·refine zc ?_;exact (by refine gj (eV.mono 0x3) hr oX ?_; exact (by refine ae ?_ ?_; (exact (ag 0 (pv 0))); (exact (ae (ag 1 (pv 1)) (ae (ag 2 (pv 2)) ah)))))
 ·refine ax ?_;exact aL (by refine oF fY (hr.mono 0x3) TT.cl ?_ ?_; (exact (by refine B0 (MR g.1 g.2) (hr.mono 0x3) ?_; exact (ae (by refine gj (cX.mono 0x3) hr oX ?_; exact (by refine ae ?_ ?_; (exact (ag 0 (pv 0))); (exact (ae (ag 1 (pv 1)) (ae (ag 2 (pv 2)) ah))))) ah))); (exact (ae (ag 1 (pv 1)) (ae (ag 2 (pv 2)) ah))))
theorem gy (D:Df K mg "helpers" fP ["house", "hand", "jokers"]) (TT:Tt K CT) (MR:∀fM UM,HsT P w K mg base "Table" CT 2 fM UM) (fY:HasM P w K mg base 60 CT "covers" 3 m_covers)  (eV:HasX P w K mg base 3 "check_hand" 3 (dk C K7)) (cX:HasX P w K mg base 5 "playable_melds" 3 (bU C K9)) (jR:Has P w K mg base 1 "all_tiles" 1 (fS C)):HasX P w K mg base 61 "helpers" 3 (cf P w C CT K7 K9 m_covers):=by
 rw [qL];refine D.hasX fun f fd Fu=>Kn (fm:=fun (g:(PyData->Option Int)×List PyData)=>eE ["house", "hand", "jokers", "table", "room"] (kq P w C CT K7 K9 g.1 g.2 m_covers)) yL fun g=>IJ (k:=60) Fu pK rfl fun LD A outer s H E hr=>?_;have hu:=dC hr;have nd:=pK.nd;refine ar ?_ ?_
 ·refine zc ?_;exact (by refine gj (eV.mono 0x3) hr oX ?_; exact (by refine ae ?_ ?_; (exact (ag 0 (pv 0))); (exact (ae (ag 1 (pv 1)) (ae (ag 2 (pv 2)) ah)))))
 ·refine ar ?_ ?_
  ·refine cO ?_ ?_ ?_
   ·exact (bx (i7 hu) (aS d5 rfl T.b_len dW (ae (ag 1 (pv 1)) ah)) (ie T.i_MOST_TILES))
   ·refine ax ?_;exact aL (b8 ah)
   ·exact bR
  ·refine ar ?_ ?_
   ·refine aV (i:=3) ?_ ?_
    ·exact nd
    ·exact (by refine B0 (MR g.1 g.2) (hr.mono 0x3) ?_; exact (ae (by refine gj (cX.mono 0x3) hr oX ?_; exact (by refine ae ?_ ?_; (exact (ag 0 (pv 0))); (exact (ae (ag 1 (pv 1)) (ae (aJ aP (ag 2 (pv 2)) aj) ah))))) ah))
   ·refine ar ?_ ?_
    ·refine l5 (i:=4) (N':=["tile", "hand"]) (CompSc.fit (sc:=ak fP) (N:=["house", "hand", "jokers", "table", "room"]) 0x62) 0x3 rfl (by exact nd) (dG (aM (jR.mono 0x3) hr (ae (ag 0 (pv 0)) ah))) (aD 0) (aT 0x3) (fun _ _ _ _=>(fg (i:=0) 0x63)) (fun _ _ _ _=>jf (bx (jq hu) (mn hu (ag 1 (pv 1)) (ag 0 (pv 0))) (ie T.i_MOST_ALIKE))) (fun _ _ _ _=>(ag 0 (pv 0)))
    ·refine dg 4 ?_;refine ax ?_;exact aL (bF (N':=["tile", "jokers", "table", "hand"]) (CompSc.fit (sc:=ak fP) (N:=["house", "hand", "jokers", "table", "room"]) 0x62) 0x3 rfl (dG (ag 4 (pv 4))) (aD 0) (aT 0x3) (fun _ _ _ _=>(fg (i:=0) 0x63)) (fun _ _ _ _=>jf (gG (by refine oF fY (hr.mono 0x3) TT.cl ?_ ?_; (exact (ag 2 (pv 2))); (exact (ae (aS (gS hu) rfl T.b_sorted gA (ae (aJ aP (ag 3 (pv 3)) (b8 (ae (ag 0 (pv 0)) ah))) ah)) (ae (ag 1 (pv 1)) ah)))))) (fun _ _ _ _=>(ag 0 (pv 0))))
theorem bu  (D:Df K mg "_law_cell_at" dN ["script", "k"])   : Has P w K mg base 1 "_law_cell_at" 2 (aH K):=D.has fun f fd Fu=>lT (k:=0) Fu jE rfl fun LD A outer s H E hr=>by
 have hu:=dC hr;have nd:=jE.nd;refine ar ?_ ?_
 ·refine cO ?_ ?_ ?_
  ·exact (bx (jq hu) (ag 1 (pv 1)) (aS DL rfl T.b_len dW (ae (ag 0 (pv 0)) ah)))
  ·refine ax ?_;exact aL (Gs (ag 0 (pv 0)) (ag 1 (pv 1)))
  ·exact bR
 ·refine ax ?_;exact aL aj
theorem bM  (D:Df K mg "_law_mix" gY ["cell", "k", "many"])   : Has P w K mg base 1 "_law_mix" 3 (aA):=D.has fun f fd Fu=>lT (k:=0) Fu nX rfl fun LD A outer s H E hr=>by
 have hu:=dC hr;have nd:=nX.nd;refine ar ?_ ?_
 ·refine aV (i:=3) ?_ ?_
  ·exact nd
  ·exact (by refine b8 ?_; (exact (by refine ae ?_ ?_; (exact (by exact aj)); (exact (by refine ae ?_ ?_; (exact (by exact aj)); (exact (by refine ae ?_ ?_; (exact (by exact aj)); (exact (by refine ae ?_ ?_; (exact (by exact aj)); (exact (by refine ae ?_ ?_; (exact (by exact aj)); (exact (by refine ae ?_ ?_; (exact (by exact aj)); (exact (by refine ae ?_ ?_; (exact (by exact aj)); (exact (by refine ae ?_ ?_; (exact (by exact aj)); (exact (by refine ae ?_ ?_; (exact (by exact aj)); (exact (by refine ae ?_ ?_; (exact (by exact aj)); (exact (by refine ae ?_ ?_; (exact (by exact aj)); (exact (by refine ae ?_ ?_; (exact (by exact aj)); (exact (by refine ae ?_ ?_; (exact (by exact aj)); (exact ah))))))))))))))))))))))))))))
 ·refine ar ?_ ?_
  ·refine aV (i:=4) ?_ ?_
   ·exact nd
   ·exact (aJ ck (aJ ck (aJ gK (aJ ck (aJ gE (ag 0 (pv 0)) (by exact aj)) (by exact aj)) (bE (ag 3 (pv 3)) (aJ gE (ag 1 (pv 1)) aj))) (aJ gK (by exact aj) (ag 1 (pv 1)))) (aJ gK (by exact aj) (aJ qC (ag 1 (pv 1)) aj)))
  ·refine ar ?_ ?_
   ·refine aV (i:=4) ?_ ?_
    ·exact nd
    ·exact (aJ gE (ag 4 (pv 4)) (by exact aj))
   ·refine ax ?_;exact aL (aJ gE (aJ qC (aJ gE (aJ ck (aJ gK (ag 4 (pv 4)) (ag 4 (pv 4))) (aJ gK (by exact aj) (ag 1 (pv 1)))) (by exact aj)) aj) (ag 2 (pv 2)))
theorem jV  (D:Df K mg "_law_told" fZ ["found", "due"])   : Has P w K mg base 1 "_law_told" 2 (iq):=D.has fun f fd Fu=>lT (k:=0) Fu mf rfl fun LD A outer s H E hr=>by
 have hu:=dC hr;have nd:=mf.nd;refine ax ?_;exact aL (nB (AA 0x3 T.b_isinstance T.b_bool EU (ag 0 (pv 0))) (qw (jo (i7 hu) (ag 0 (pv 0)) (ag 1 (pv 1)))))
theorem f7  (D:Df K mg "_law_house_by" dv ["script"])  (bu:Has P w K mg base 1 "_law_cell_at" 2 (aH K)) (bM:Has P w K mg base 1 "_law_mix" 3 (aA)):Has P w K mg base 2 "_law_house_by" 1 (du K):=D.has fun f fd Fu=>lT (k:=1) Fu iY rfl fun LD A outer s H E hr=>by
 have hu:=dC hr;have nd:=iY.nd;refine ar ?_ ?_
 ·refine aV (i:=1) ?_ ?_
  ·exact nd
  ·exact (aM (bu.mono 0x3) hr (ae (ag 0 (pv 0)) (ae aj ah)))
 ·refine ax ?_;exact aL (bL (ae (aJ ck aj (aM (bM.mono 0x3) hr (by refine ae ?_ ?_; (exact (ag 1 (pv 1))); (exact (ae aj (ae (bE (by refine b8 ?_; (exact (by refine ae ?_ ?_; (exact aj); (exact (by refine ae ?_ ?_; (exact aj); (exact (by refine ae ?_ ?_; (exact aj); (exact (by refine ae ?_ ?_; (exact aj); (exact ah)))))))))) (aM (bM.mono 0x3) hr (by refine ae ?_ ?_; (exact (ag 1 (pv 1))); (exact (ae aj (ae aj ah)))))) ah)))))) (ae (aJ ck aj (aM (bM.mono 0x3) hr (by refine ae ?_ ?_; (exact (ag 1 (pv 1))); (exact (ae aj (ae aj ah)))))) ah)))
theorem hG  (D:Df K mg "_law_trimmed" dS ["tiles", "limit"])   : Has P w K mg base 1 "_law_trimmed" 2 (cA):=D.has fun f fd Fu=>lT (k:=0) Fu jx rfl fun LD A outer s H E hr=>by
 have hu:=dC hr;have nd:=jx.nd;refine ar ?_ ?_
 ·refine aV (i:=2) ?_ ?_
  ·exact nd
  ·exact (b8 ah)
 ·refine ar ?_ ?_
  ·refine dR PassesOwn.never rfl ?_ (fg (i:=3) (by exact nd)) (aD 3) ?_
   ·exact (dG (ag 0 (pv 0)))
   ·refine ax ?_;refine cO ?_ ?_ ?_
    ·exact (wo.pb (xk (bx (jq hu) (mn hu (ag 2 (pv 2)) (ag 3 (pv 3))) aj) (uA (bx (jq hu) (aS d5 rfl T.b_len dW (ae (ag 2 (pv 2)) ah)) (ag 1 (pv 1))))))
    ·refine ax ?_;refine tM (pv 2) ?_;exact (ag 3 (pv 3))
    ·exact bR
  ·refine ax ?_;exact aL (aS (gS hu) rfl T.b_sorted gA (ae (ag 2 (pv 2)) ah))
theorem gT  (D:Df K mg "_law_hand_by" cE ["script", "start", "most", "colours", "limit"])  (bu:Has P w K mg base 1 "_law_cell_at" 2 (aH K)) (bM:Has P w K mg base 1 "_law_mix" 3 (aA)) (hG:Has P w K mg base 1 "_law_trimmed" 2 (cA)):Has P w K mg base 2 "_law_hand_by" 5 (dQ K):=D.has fun f fd Fu=>lT (k:=1) Fu jA rfl fun LD A outer s H E hr=>by
 have hu:=dC hr;have nd:=jA.nd;refine ar ?_ ?_
 ·refine aV (i:=5) ?_ ?_
  ·exact nd
  ·exact (b8 ah)
 ·refine ar ?_ ?_
  ·refine dR PassesOwn.never rfl ?_ (fg (i:=6) (by exact nd)) (aD 6) ?_
   ·exact (iB T.b_range (ae aj ah))
   ·refine ar ?_ ?_
    ·refine aV (i:=7) ?_ ?_
     ·exact nd
     ·exact (aM (bu.mono 0x3) hr (ae (ag 0 (pv 0)) (ae (aJ ck (ag 1 (pv 1)) (ag 6 (pv 6))) ah)))
    ·refine ar ?_ ?_
     ·refine BB ?_ (uB rfl (fX (fg (i:=8) (by exact nd)) (fX (fg (i:=9) (by exact nd)) oJ))) (ux (hX (aD 8) (hX (aD 9) t5)));exact (bL (ae (aJ ck aj (aM (bM.mono 0x3) hr (by refine ae ?_ ?_; (exact (ag 7 (pv 7))); (exact (ae aj (ae (ag 2 (pv 2)) ah)))))) (ae (aM (bM.mono 0x3) hr (by refine ae ?_ ?_; (exact (ag 7 (pv 7))); (exact (ae aj (ae (ag 3 (pv 3)) ah))))) ah)))
     ·refine ar ?_ ?_
      ·refine aV (i:=10) ?_ ?_
       ·exact nd
       ·exact (aJ ck aj (aM (bM.mono 0x3) hr (by refine ae ?_ ?_; (exact (ag 7 (pv 7))); (exact (ae aj (ae aj ah))))))
      ·refine ar ?_ ?_
       ·refine cO ?_ ?_ ?_
        ·exact (bx (i7 hu) (aM (bM.mono 0x3) hr (by refine ae ?_ ?_; (exact (ag 7 (pv 7))); (exact (ae aj (ae aj ah))))) aj)
        ·refine ax ?_;refine aV (i:=5) ?_ ?_
         ·exact nd
         ·exact (aJ ck (ag 5 (pv 5)) (bF (N':=["x", "colour"]) (CompSc.fit (sc:=ak cE) (N:=["script", "start", "most", "colours", "limit", "tiles", "k", "cell", "number", "colour", "size"]) 0x62) 0x3 rfl (kg T.b_range (ae (ag 8 (pv 8)) (ae (aJ ck (aS (Hk rfl) rfl T.b_min He (ae (ag 2 (pv 2)) (ae (aJ g9 (aJ ck (ag 8 (pv 8)) (ag 10 (pv 10))) aj) ah))) aj) ah))) (aD 0) (aT 0x3) (fun _ _ _ _=>(fg (i:=0) 0x63)) (fun _ _ _ _=>cz) (fun _ _ _ _=>(bL (ae (ag 0 (pv 0)) (ae (ag 1 (pv 1)) ah))))))
        ·refine ax ?_;refine aV (i:=5) ?_ ?_
         ·exact nd
         ·exact (aJ ck (ag 5 (pv 5)) (bF (N':=["x", "number", "cell"]) (CompSc.fit (sc:=ak cE) (N:=["script", "start", "most", "colours", "limit", "tiles", "k", "cell", "number", "colour", "size"]) 0x62) 0x3 rfl (iB T.b_range (ae (ag 3 (pv 3)) ah)) (aD 0) (aT 0x3) (fun _ _ _ _=>(fg (i:=0) 0x63)) (fun _ _ _ _=>jf (bx pW (aM (bM.mono 0x3) hr (by refine ae ?_ ?_; (exact (ag 2 (pv 2))); (exact (ae (aJ ck aj (ag 0 (pv 0))) (ae aj ah))))) aj)) (fun _ _ _ _=>(bL (ae (ag 1 (pv 1)) (ae (ag 0 (pv 0)) ah))))))
       ·refine ax ?_;refine cO ?_ ?_ ?_
        ·exact (bx (i7 hu) (aM (bM.mono 0x3) hr (by refine ae ?_ ?_; (exact (ag 7 (pv 7))); (exact (ae aj (ae aj ah))))) aj)
        ·refine ax ?_;refine tM (pv 5) ?_;exact (bL (ae (aJ ck aj (aM (bM.mono 0x3) hr (by refine ae ?_ ?_; (exact (ag 7 (pv 7))); (exact (ae aj (ae (ag 2 (pv 2)) ah)))))) (ae (aM (bM.mono 0x3) hr (by refine ae ?_ ?_; (exact (ag 7 (pv 7))); (exact (ae aj (ae (ag 3 (pv 3)) ah))))) ah)))
        ·exact bR
  ·refine ar ?_ ?_
   ·refine cO ?_ ?_ ?_
    ·exact (bx (i7 hu) (aS d5 rfl T.b_len dW (ae (ag 5 (pv 5)) ah)) aj)
    ·refine ax ?_;refine aV (i:=5) ?_ ?_
     ·exact nd
     ·exact (b8 (ae (bL (ae aj (ae aj ah))) ah))
    ·exact bR
   ·refine ar ?_ ?_
    ·refine cO ?_ ?_ ?_
     ·exact (bx (i7 hu) (aJ gE (aM (bu.mono 0x3) hr (ae (ag 0 (pv 0)) (ae (aJ ck (ag 1 (pv 1)) aj) ah))) aj) aj)
     ·refine ax ?_;exact aL (b8 ah)
     ·exact bR
    ·refine dg 5 ?_;refine ax ?_;exact aL (aM (hG.mono 0x3) hr (ae (ag 5 (pv 5)) (ae (aJ ck aj (aJ gE (aM (bu.mono 0x3) hr (ae (ag 0 (pv 0)) (ae (aJ ck (ag 1 (pv 1)) aj) ah))) (ag 4 (pv 4)))) ah)))
theorem fH  (D:Df K mg "_law_jokers_by" cW ["script", "hand"])  (bu:Has P w K mg base 1 "_law_cell_at" 2 (aH K)):Has P w K mg base 2 "_law_jokers_by" 2 (cq K):=D.has fun f fd Fu=>lT (k:=1) Fu hV rfl fun LD A outer s H E hr=>by
 have hu:=dC hr;have nd:=hV.nd;refine ar ?_ ?_
 ·refine aV (i:=2) ?_ ?_
  ·exact nd
  ·exact (aM (bu.mono 0x3) hr (ae (ag 0 (pv 0)) (ae aj ah)))
 ·refine ax ?_;exact aL (bE (by refine b8 ?_; (exact (by refine ae ?_ ?_; (exact aj); (exact (by refine ae ?_ ?_; (exact aj); (exact (by refine ae ?_ ?_; (exact aj); (exact (by refine ae ?_ ?_; (exact (bE (b8 (ae aj (ae aj ah))) (iW HJ rfl T.b_int Hi (ae (jo (jq hu) (aS d5 rfl T.b_len dW (ae (ag 1 (pv 1)) ah)) aj) ah)))); (exact ah)))))))))) (aJ gE (ag 2 (pv 2)) aj))
theorem eS  (D:Df K mg "_law_tiles" dm ["meld"])   : Has P w K mg base 1 "_law_tiles" 1 (bq):=D.has fun f fd Fu=>lT (k:=0) Fu kU rfl fun LD A outer s H E hr=>by
 have hu:=dC hr;have nd:=kU.nd;refine ar ?_ ?_
 ·refine cO ?_ ?_ ?_
  ·exact (bx (i7 hu) (bE (ag 0 (pv 0)) aj) (jS 0x2))
  ·refine ax ?_;exact aL (bF (N':=["k", "meld"]) (CompSc.fit (sc:=ak dm) (N:=["meld"]) 0x62) 0x3 rfl (iB T.b_range (ae (bE (ag 0 (pv 0)) aj) ah)) (aD 0) (aT 0x3) (fun _ _ _ _=>(fg (i:=0) 0x63)) (fun _ _ _ _=>cz) (fun _ _ _ _=>(bL (ae (aJ aP (bE (ag 1 (pv 1)) aj) (ag 0 (pv 0))) (ae (bE (ag 1 (pv 1)) aj) ah)))))
  ·exact bR
 ·refine ax ?_;exact aL (bF (N':=["colour", "meld"]) (CompSc.fit (sc:=ak dm) (N:=["meld"]) 0x62) 0x3 rfl (Bj (bE (ag 0 (pv 0)) aj)) (aD 0) (aT 0x3) (fun _ _ _ _=>(fg (i:=0) 0x63)) (fun _ _ _ _=>cz) (fun _ _ _ _=>(bL (ae (bE (ag 1 (pv 1)) aj) (ae (ag 0 (pv 0)) ah)))))
theorem jg  (D:Df K mg "_law_melds" cN ["most", "colours"])   : Has P w K mg base 1 "_law_melds" 2 (eX):=D.has fun f fd Fu=>lT (k:=0) Fu kQ rfl fun LD A outer s H E hr=>by
 have hu:=dC hr;have nd:=kQ.nd;refine ar ?_ ?_
 ·refine aV (i:=2) ?_ ?_
  ·exact nd
  ·exact (b8 ah)
 ·refine ar ?_ ?_
  ·refine dR PassesOwn.never rfl ?_ (fg (i:=3) (by exact nd)) (aD 3) ?_
   ·exact (iB T.b_range (ae (ag 1 (pv 1)) ah))
   ·refine ax ?_;refine dR PassesOwn.never rfl ?_ (fg (i:=4) (by exact nd)) (aD 4) ?_
    ·exact (kg T.b_range (ae aj (ae (aJ aP (ag 0 (pv 0)) aj) ah)))
    ·refine ax ?_;refine aV (i:=2) ?_ ?_
     ·exact nd
     ·exact (aJ aP (ag 2 (pv 2)) (bF (N':=["last", "colour", "first"]) (CompSc.fit (sc:=ak cN) (N:=["most", "colours", "found", "colour", "first", "kinds", "number"]) 0x62) 0x3 rfl (kg T.b_range (ae (aJ aP (ag 4 (pv 4)) aj) (ae (aJ aP (ag 0 (pv 0)) aj) ah))) (aD 0) (aT 0x3) (fun _ _ _ _=>(fg (i:=0) 0x63)) (fun _ _ _ _=>cz) (fun _ _ _ _=>(by refine bL ?_; (exact (by refine ae ?_ ?_; (exact (jS 0x2)); (exact (by refine ae ?_ ?_; (exact (ag 1 (pv 1))); (exact (by refine ae ?_ ?_; (exact (ag 2 (pv 2))); (exact (by refine ae ?_ ?_; (exact (aJ aP (aJ g9 (ag 0 (pv 0)) (ag 2 (pv 2))) aj)); (exact ah)))))))))))))
  ·refine ar ?_ ?_
   ·refine aV (i:=5) ?_ ?_
    ·exact nd
    ·exact (b8 (ae (b8 ah) ah))
   ·refine ar ?_ ?_
    ·refine dR PassesOwn.never rfl ?_ (fg (i:=3) (by exact nd)) (aD 3) ?_
     ·exact (iB T.b_range (ae (ag 1 (pv 1)) ah))
     ·refine dg 5 ?_;refine ax ?_;refine aV (i:=5) ?_ ?_
      ·exact nd
      ·exact (aJ aP (ag 5 (pv 5)) (bF (N':=["kind", "colour"]) (CompSc.fit (sc:=ak cN) (N:=["most", "colours", "found", "colour", "first", "kinds", "number"]) 0x62) 0x3 rfl (dG (ag 5 (pv 5))) (aD 0) (aT 0x3) (fun _ _ _ _=>(fg (i:=0) 0x63)) (fun _ _ _ _=>cz) (fun _ _ _ _=>(aJ aP (ag 0 (pv 0)) (b8 (ae (ag 1 (pv 1)) ah))))))
    ·refine ar ?_ ?_
     ·refine dR PassesOwn.never rfl ?_ (fg (i:=6) (by exact nd)) (aD 6) ?_
      ·exact (kg T.b_range (ae aj (ae (aJ aP (ag 0 (pv 0)) aj) ah)))
      ·refine dg 5 ?_;refine ax ?_;refine aV (i:=2) ?_ ?_
       ·exact nd
       ·exact (aJ aP (ag 2 (pv 2)) (bF (N':=["kind", "number"]) (CompSc.fit (sc:=ak cN) (N:=["most", "colours", "found", "colour", "first", "kinds", "number"]) 0x62) 0x3 rfl (dG (ag 5 (pv 5))) (aD 0) (aT 0x3) (fun _ _ _ _=>(fg (i:=0) 0x63)) (fun _ _ _ _=>jf (bx pW (aS d5 rfl T.b_len dW (ae (ag 0 (pv 0)) ah)) aj)) (fun _ _ _ _=>(by refine bL ?_; (exact (by refine ae ?_ ?_; (exact (jS 0x2)); (exact (ae (ag 1 (pv 1)) (ae (iW B9 rfl T.b_tuple uY (ae (ag 0 (pv 0)) ah)) ah)))))))))
     ·refine ax ?_;exact aL (aS (pJ hu) rfl T.b_sorted gA (ae (ag 2 (pv 2)) ah))
theorem dF  (D:Df K mg "_law_wanting" c0 ["rest", "tiles"])   : Has P w K mg base 1 "_law_wanting" 2 (bO):=D.has fun f fd Fu=>lT (k:=0) Fu jD rfl fun LD A outer s H E hr=>by
 have hu:=dC hr;have nd:=jD.nd;refine ax ?_;exact aL (aS d5 rfl T.b_len dW (ae (bF (N':=["tile", "rest"]) (CompSc.fit (sc:=ak c0) (N:=["rest", "tiles"]) 0x62) 0x3 rfl (dG (ag 1 (pv 1))) (aD 0) (aT 0x3) (fun _ _ _ _=>(fg (i:=0) 0x63)) (fun _ _ _ _=>jf (bx (AU hu) (ag 0 (pv 0)) (ag 1 (pv 1)))) (fun _ _ _ _=>(ag 0 (pv 0)))) ah))
theorem g7  (D:Df K mg "_law_without" dI ["rest", "tiles"])   : Has P w K mg base 1 "_law_without" 2 (cC):=D.has fun f fd Fu=>lT (k:=0) Fu jF rfl fun LD A outer s H E hr=>by
 have hu:=dC hr;have nd:=jF.nd;refine ar ?_ ?_
 ·refine aV (i:=2) ?_ ?_
  ·exact nd
  ·exact (iW sV rfl T.b_list oV (ae (ag 0 (pv 0)) ah))
 ·refine ar ?_ ?_
  ·refine dR PassesOwn.never rfl ?_ (fg (i:=3) (by exact nd)) (aD 3) ?_
   ·exact (dG (ag 1 (pv 1)))
   ·refine ax ?_;refine cO ?_ ?_ ?_
    ·exact (bx (FC hu) (ag 3 (pv 3)) (ag 2 (pv 2)))
    ·refine ax ?_;refine BX hu (pv 2) ?_;exact (ag 3 (pv 3))
    ·exact bR
  ·refine ax ?_;exact aL (ag 2 (pv 2))
theorem eM  {m__law_best:List DV->M DV} {k:Nat} (D:Df K mg "_law_best" c9 ["some", "rest", "jokers"])  (eS:Has P w K mg base 1 "_law_tiles" 1 (bq)) (dF:Has P w K mg base 1 "_law_wanting" 2 (bO)) (g7:Has P w K mg base 1 "_law_without" 2 (cC)) (eM:Has P w K mg base (k+10) "_law_best" 3 (m__law_best)):Has P w K mg base (k+11) "_law_best" 3 (fU m__law_best):=D.has fun f fd Fu=>lT (k:=k+10) Fu mJ rfl fun LD A outer s H E hr=>by
 have hu:=dC hr;have nd:=mJ.nd;refine ar ?_ ?_
 ·refine aV (i:=3) ?_ ?_
  ·exact nd
  ·exact (bL (ae aj (ae (b8 ah) ah)))
 ·refine ar ?_ ?_
  ·refine Et PassesOwn.never rfl ?_ (uB rfl (fX (fg (i:=4) (by exact nd)) (fX (fg (i:=5) (by exact nd)) oJ))) (ux (hX (aD 4) (hX (aD 5) t5))) ?_
   ·exact (IU T.b_enumerate (ae (ag 0 (pv 0)) ah))
   ·refine ar ?_ ?_
    ·refine aV (i:=6) ?_ ?_
     ·exact nd
     ·exact (aM (eS.mono 0x1) hr (ae (ag 5 (pv 5)) ah))
    ·refine dg 6 ?_;refine ar ?_ ?_
     ·refine aV (i:=7) ?_ ?_
      ·exact nd
      ·exact (aM (dF.mono 0x1) hr (ae (ag 1 (pv 1)) (ae (ag 6 (pv 6)) ah)))
     ·refine ax ?_;refine cO ?_ ?_ ?_
      ·exact (bx (fC hu) (ag 7 (pv 7)) (ag 2 (pv 2)))
      ·refine dg 6 ?_;refine ar ?_ ?_
       ·refine aV (i:=8) ?_ ?_
        ·exact nd
        ·exact (aM (g7.mono 0x1) hr (ae (ag 1 (pv 1)) (ae (ag 6 (pv 6)) ah)))
       ·refine dg 8 ?_;refine ar ?_ ?_
        ·refine aV (i:=9) ?_ ?_
         ·exact nd
         ·exact (aJ g9 (aS (xc rfl) rfl T.b_sum wu (ae (bF (N':=["tile"]) (CompSc.fit (sc:=ak c9) (N:=["some", "rest", "jokers", "found", "k", "meld", "tiles", "wanting", "behind", "gain", "more"]) 0x62) 0x3 rfl (dG (ag 1 (pv 1))) (aD 0) (aT 0x3) (fun _ _ _ _=>(fg (i:=0) 0x63)) (fun _ _ _ _=>cz) (fun _ _ _ _=>(bE (ag 0 (pv 0)) aj))) ah)) (aS (xc rfl) rfl T.b_sum wu (ae (bF (N':=["tile"]) (CompSc.fit (sc:=ak c9) (N:=["some", "rest", "jokers", "found", "k", "meld", "tiles", "wanting", "behind", "gain", "more"]) 0x62) 0x3 rfl (dG (ag 8 (pv 8))) (aD 0) (aT 0x3) (fun _ _ _ _=>(fg (i:=0) 0x63)) (fun _ _ _ _=>cz) (fun _ _ _ _=>(bE (ag 0 (pv 0)) aj))) ah)))
        ·refine dg 8 ?_;refine ar ?_ ?_
         ·refine aV (i:=10) ?_ ?_
          ·exact nd
          ·exact (aM eM hr (by refine ae ?_ ?_; (exact (xY (ag 0 (pv 0)) (ag 4 (pv 4)))); (exact (ae (ag 8 (pv 8)) (ae (aJ g9 (ag 2 (pv 2)) (ag 7 (pv 7))) ah)))))
         ·refine ax ?_;refine cO ?_ ?_ ?_
          ·exact (bx pW (aJ aP (ag 9 (pv 9)) (bE (ag 10 (pv 10)) aj)) (bE (ag 3 (pv 3)) aj))
          ·refine ax ?_;refine aV (i:=3) ?_ ?_
           ·exact nd
           ·exact (bL (ae (aJ aP (ag 9 (pv 9)) (bE (ag 10 (pv 10)) aj)) (ae (aJ aP (b8 (ae (ag 5 (pv 5)) ah)) (bE (ag 10 (pv 10)) aj)) ah)))
          ·exact bR
      ·exact bR
  ·refine ax ?_;exact aL (ag 3 (pv 3))
variable {m__law_best:List DV->M DV}
theorem gW  (D:Df K mg "_law_best_of" cU ["most", "colours", "hand", "jokers"])  (jg:Has P w K mg base 1 "_law_melds" 2 (eX)) (eS:Has P w K mg base 1 "_law_tiles" 1 (bq)) (dF:Has P w K mg base 1 "_law_wanting" 2 (bO)) (eM:Has P w K mg base 30 "_law_best" 3 (m__law_best)):Has P w K mg base 31 "_law_best_of" 4 (dP m__law_best):=D.has fun f fd Fu=>lT (k:=30) Fu jC rfl fun LD A outer s H E hr=>by
 have hu:=dC hr;have nd:=jC.nd;refine ar ?_ ?_
 ·refine l5 (i:=4) (N':=["meld", "jokers", "hand"]) (CompSc.fit (sc:=ak cU) (N:=["most", "colours", "hand", "jokers", "some"]) 0x62) 0x3 rfl (by exact nd) (dG (aM (jg.mono 0x3) hr (ae (ag 0 (pv 0)) (ae (ag 1 (pv 1)) ah)))) (aD 0) (aT 0x3) (fun _ _ _ _=>(fg (i:=0) 0x63)) (fun _ _ _ _=>jf (bx (fC hu) (aM (dF.mono 0x3) hr (ae (ag 2 (pv 2)) (ae (aM (eS.mono 0x3) hr (ae (ag 0 (pv 0)) ah)) ah))) (ag 1 (pv 1)))) (fun _ _ _ _=>(ag 0 (pv 0)))
 ·refine dg 4 ?_;refine ax ?_;exact aL (aM (eM.mono 0x3) hr (by refine ae ?_ ?_; (exact (ag 4 (pv 4))); (exact (ae (ag 2 (pv 2)) (ae (ag 3 (pv 3)) ah)))))
theorem ji  (D:Df K mg "_law_out" fD ["most", "colours", "hand", "jokers"])  (gW:Has P w K mg base 31 "_law_best_of" 4 (dP m__law_best)):Has P w K mg base 32 "_law_out" 4 (dH m__law_best):=D.has fun f fd Fu=>lT (k:=31) Fu nT rfl fun LD A outer s H E hr=>by
 have hu:=dC hr;have nd:=nT.nd;refine ax ?_;exact aL (jo (i7 hu) (bE (aM (gW.mono 0x3) hr (by refine ae ?_ ?_; (exact (ag 0 (pv 0))); (exact (by refine ae ?_ ?_; (exact (ag 1 (pv 1))); (exact (by refine ae ?_ ?_; (exact (ag 2 (pv 2))); (exact (by refine ae ?_ ?_; (exact (ag 3 (pv 3))); (exact ah))))))))) aj) (aS (xc rfl) rfl T.b_sum wu (ae (bF (N':=["tile"]) (CompSc.fit (sc:=ak fD) (N:=["most", "colours", "hand", "jokers"]) 0x62) 0x3 rfl (dG (ag 2 (pv 2))) (aD 0) (aT 0x3) (fun _ _ _ _=>(fg (i:=0) 0x63)) (fun _ _ _ _=>cz) (fun _ _ _ _=>(bE (ag 0 (pv 0)) aj))) ah)))
theorem iy (D:Df K mg "_law_eleven" dz ["cell"])  (L1:JX P w K mg base C K8) (gy:HasX P w K mg base 61 "helpers" 3 (cf P w C CT K7 K9 m_covers)):Has P w K mg base 62 "_law_eleven" 1 (d8 P w C CT K7 K8 K9 m_covers):=D.has fun f fd Fu=>lT (k:=61) Fu ki rfl fun LD A outer s H E hr=>by
 have hu:=dC hr;have nd:=ki.nd;refine ar ?_ ?_
 ·refine l5 (i:=1) (N':=["k"]) (CompSc.fit (sc:=ak dz) (N:=["cell", "tiles", "at"]) 0x62) 0x3 rfl (by exact nd) (iB T.b_range (ae aj ah)) (aD 0) (aT 0x3) (fun _ _ _ _=>(fg (i:=0) 0x63)) (fun _ _ _ _=>cz) (fun _ _ _ _=>(bL (ae (aJ aP aj (aJ qC (ag 0 (pv 0)) aj)) (ae aj ah))))
 ·refine ar ?_ ?_
  ·refine aV (i:=2) ?_ ?_
   ·exact nd
   ·exact (aJ gE (ag 0 (pv 0)) aj)
  ·refine ax ?_;exact aL (jo (i7 hu) (by refine gj (gy.mono 0x3) hr lR ?_; exact (by refine ae ?_ ?_; (exact (by refine xS L1 0x2 (hr.mono 0x3) lR ?_; exact (ae aj (ae aj ah)))); (exact (ae (aJ aP (sY (ag 1 (pv 1)) (ag 2 (pv 2))) (xY (ag 1 (pv 1)) (aJ aP (ag 2 (pv 2)) aj))) (ae (aJ gE (aJ qC (ag 0 (pv 0)) aj) aj) ah))))) (b8 (ae (bE (ag 1 (pv 1)) (ag 2 (pv 2))) ah)))
theorem GB {f:Addr} {fd:FuncData} (Fu:Fun K "law" "law" mH f fd)  (L1:JX P w K mg base C K8) (f7:Has P w K mg base 2 "_law_house_by" 1 (du K)) (gT:Has P w K mg base 2 "_law_hand_by" 5 (dQ K)) (fH:Has P w K mg base 2 "_law_jokers_by" 2 (cq K)) (ji:Has P w K mg base 32 "_law_out" 4 (dH m__law_best)) (ly:HasX P w K mg base 61 "goes_out" 3 (dM P w C CT K7 K9 m_covers)) (jV:Has P w K mg base 1 "_law_told" 2 (iq)) (bu:Has P w K mg base 1 "_law_cell_at" 2 (aH K)) (iy:Has P w K mg base 62 "_law_eleven" 1 (d8 P w C CT K7 K8 K9 m_covers)) (gy:HasX P w K mg base 61 "helpers" 3 (cf P w C CT K7 K9 m_covers)):FnOk P w K mg base uH 63 f fd ["script"] (Ep 1 (rJ P w K C CT K7 K8 K9 m_covers m__law_best)):=lT (k:=62) Fu AR rfl fun LD A outer s H E hr=>by
 have hu:=dC hr;have nd:=AR.nd;refine ar ?_ ?_
 ·refine BB ?_ (uB rfl (fX (fg (i:=1) (by exact nd)) (fX (fg (i:=2) (by exact nd)) oJ))) (ux (hX (aD 1) (hX (aD 2) t5)));exact (aM (f7.mono 0x3) hr (ae (ag 0 (pv 0)) ah))
 ·refine ar ?_ ?_
  ·refine aV (i:=3) ?_ ?_
   ·exact nd
   ·exact (by refine xS L1 0x2 (hr.mono 0x3) lR ?_; exact (ae (ag 1 (pv 1)) (ae (ag 2 (pv 2)) ah)))
  ·refine ar ?_ ?_
   ·refine aV (i:=4) ?_ ?_
    ·exact nd
    ·exact (aM (gT.mono 0x3) hr (by refine ae ?_ ?_; (exact (ag 0 (pv 0))); (exact (by refine ae ?_ ?_; (exact aj); (exact (by refine ae ?_ ?_; (exact (ag 1 (pv 1))); (exact (by refine ae ?_ ?_; (exact (ag 2 (pv 2))); (exact (by refine ae ?_ ?_; (exact aj); (exact ah)))))))))))
   ·refine dg 4 ?_;refine ar ?_ ?_
    ·refine aV (i:=5) ?_ ?_
     ·exact nd
     ·exact (aM (fH.mono 0x3) hr (ae (ag 0 (pv 0)) (ae (ag 4 (pv 4)) ah)))
    ·refine ar ?_ ?_
     ·refine aV (i:=6) ?_ ?_
      ·exact nd
      ·exact (iW sV rfl T.b_list oV (ae (ag 4 (pv 4)) ah))
     ·refine dg 4 ?_;refine ar ?_ ?_
      ·refine aV (i:=7) ?_ ?_
       ·exact nd
       ·exact (aM (ji.mono 0x3) hr (by refine ae ?_ ?_; (exact (ag 1 (pv 1))); (exact (by refine ae ?_ ?_; (exact (ag 2 (pv 2))); (exact (by refine ae ?_ ?_; (exact (ag 4 (pv 4))); (exact (by refine ae ?_ ?_; (exact (ag 5 (pv 5))); (exact ah)))))))))
      ·refine dg 6 ?_;refine ar ?_ ?_
       ·refine cO ?_ ?_ ?_
        ·exact (wo.pb (rH (gf (gG (aM (jV.mono 0x3) hr (ae (by refine gj (ly.mono 0x3) hr lR ?_; exact (by refine ae ?_ ?_; (exact (ag 3 (pv 3))); (exact (ae (ag 6 (pv 6)) (ae (ag 5 (pv 5)) ah))))) (ae (ag 7 (pv 7)) ah))))) (qg (bx (yH hu) (ag 6 (pv 6)) (ag 4 (pv 4))))))
        ·refine ax ?_;exact aL ig
        ·exact bR
       ·refine ar ?_ ?_
        ·refine cO ?_ ?_ ?_
         ·exact (gf (gG (aM (iy.mono 0x3) hr (ae (aM (bu.mono 0x3) hr (ae (ag 0 (pv 0)) (ae aj ah))) ah))))
         ·refine ax ?_;exact aL ig
         ·exact bR
        ·refine ar ?_ ?_
         ·refine aV (i:=8) ?_ ?_
          ·exact nd
          ·exact (sY (bF (N':=["k", "most"]) (CompSc.fit (sc:=ak mH) (N:=["script", "most", "colours", "house", "hand", "jokers", "handed", "out", "kinds", "due", "number", "colour", "more", "lap", "found"]) 0x62) 0x3 rfl (iB T.b_range (ae (aJ gK (ag 1 (pv 1)) (ag 2 (pv 2))) ah)) (aD 0) (aT 0x3) (fun _ _ _ _=>(fg (i:=0) 0x63)) (fun _ _ _ _=>cz) (fun _ _ _ _=>(bL (ae (aJ aP aj (aJ gE (ag 0 (pv 0)) (ag 1 (pv 1)))) (ae (aJ qC (ag 0 (pv 0)) (ag 1 (pv 1))) ah))))) aj)
         ·refine ar ?_ ?_
          ·refine cO ?_ ?_ ?_
           ·exact (wo.pb (xk (bx (i7 hu) (aS d5 rfl T.b_len dW (ae (ag 8 (pv 8)) ah)) aj) (uA (bx (yH hu) (by refine gj (gy.mono 0x3) hr lR ?_; exact (by refine ae ?_ ?_; (exact (ag 3 (pv 3))); (exact (ae (aS (gS hu) rfl T.b_sorted gA (ae (aJ aP (ag 8 (pv 8)) (ag 8 (pv 8))) ah)) (ae (ag 5 (pv 5)) ah))))) (b8 ah)))))
           ·refine ax ?_;exact aL ig
           ·exact bR
          ·refine ar ?_ ?_
           ·refine cO ?_ ?_ ?_
            ·exact (wo.pb (rH (bx pW (aJ gK (ag 1 (pv 1)) (ag 2 (pv 2))) aj) (rH (bx pW (aS d5 rfl T.b_len dW (ae (ag 4 (pv 4)) ah)) aj) (qg (bx pW (ag 5 (pv 5)) aj)))))
            ·refine ax ?_;exact aL ig
            ·exact bR
           ·refine ar ?_ ?_
            ·refine aV (i:=9) ?_ ?_
             ·exact nd
             ·exact (b8 ah)
            ·refine ar ?_ ?_
             ·refine dR PassesOwn.never rfl ?_ (fg (i:=10) (by exact nd)) (aD 10) ?_
              ·exact (kg T.b_range (ae aj (ae (aJ aP (ag 1 (pv 1)) aj) ah)))
              ·refine ax ?_;refine dR PassesOwn.never rfl ?_ (fg (i:=11) (by exact nd)) (aD 11) ?_
               ·exact (iB T.b_range (ae (ag 2 (pv 2)) ah))
               ·refine ar ?_ ?_
                ·refine aV (i:=12) ?_ ?_
                 ·exact nd
                 ·exact (aS (gS hu) rfl T.b_sorted gA (ae (aJ aP (ag 4 (pv 4)) (b8 (ae (bL (ae (ag 10 (pv 10)) (ae (ag 11 (pv 11)) ah))) ah))) ah))
                ·refine dg 12 ?_;refine ax ?_;refine cO ?_ ?_ ?_
                 ·exact (wo.pb (xk (bx (jq hu) (mn hu (ag 12 (pv 12)) (bL (ae (ag 10 (pv 10)) (ae (ag 11 (pv 11)) ah)))) aj) (uA (gG (aM (ji.mono 0x3) hr (by refine ae ?_ ?_; (exact (ag 1 (pv 1))); (exact (by refine ae ?_ ?_; (exact (ag 2 (pv 2))); (exact (by refine ae ?_ ?_; (exact (ag 12 (pv 12))); (exact (by refine ae ?_ ?_; (exact (ag 5 (pv 5))); (exact ah)))))))))))))
                 ·refine ax ?_;refine tM (pv 9) ?_;exact (bL (ae (ag 10 (pv 10)) (ae (ag 11 (pv 11)) ah)))
                 ·exact bR
             ·refine ar ?_ ?_
              ·refine dR PassesOwn.never rfl ?_ (fg (i:=13) (by exact nd)) (aD 13) ?_
               ·exact (iB T.b_range (ae aj ah))
               ·refine dg 6 ?_;refine ar ?_ ?_
                ·refine aV (i:=14) ?_ ?_
                 ·exact nd
                 ·exact (by refine gj (gy.mono 0x3) hr lR ?_; exact (by refine ae ?_ ?_; (exact (ag 3 (pv 3))); (exact (ae (ag 6 (pv 6)) (ae (ag 5 (pv 5)) ah)))))
                ·refine ar ?_ ?_
                 ·refine cO ?_ ?_ ?_
                  ·exact (wo.pb (rH (gf (gG (AA 0x3 T.b_isinstance T.b_list oV (ag 14 (pv 14))))) (qg (gf (gG (aS (j4 rfl) rfl T.b_all p0 (ae (CH (N':=["tile"]) (CompSc.fit (sc:=ak mH) (N:=["script", "most", "colours", "house", "hand", "jokers", "handed", "out", "kinds", "due", "number", "colour", "more", "lap", "found"]) 0x62) 0x3 rfl (IA (ag 14 (pv 14))) (aD 0) (aT 0x3) (fun _ _ _ _=>(fg (i:=0) 0x63)) (fun _ _ _ _=>cz) (fun _ _ _ _=>(AA 0x3 T.b_isinstance T.b_tuple uY (ag 0 (pv 0))))) ah)))))))
                  ·refine ax ?_;exact aL ig
                  ·exact bR
                 ·refine ar ?_ ?_
                  ·refine cO ?_ ?_ ?_
                   ·exact (wo.pb (rH (bx (yH hu) (ag 14 (pv 14)) (ag 9 (pv 9))) (qg (bx (yH hu) (ag 6 (pv 6)) (ag 4 (pv 4))))))
                   ·refine ax ?_;exact aL ig
                   ·exact bR
                  ·refine ax ?_;refine tM (pv 14) ?_;exact (bL (ae aj (ae aj ah)))
              ·refine ax ?_;exact aL ig
end
end K6
namespace LW
open PySem PySem.Spec L2 L3
def Hb (xs:List Ml):Prop:=xs.Pairwise fun a b=>ll (lW (md b)) (lW (md a))=false
noncomputable instance (xs:List Ml):Decidable (Hb xs):=inferInstanceAs (Decidable (xs.Pairwise _))
theorem Hb.fl {l:By} {goal:Int}:∀(ys:List Ml) (r:List Tl) (j:Int),Hb ys->Hb (xQ l goal ys r j)/\∀y∈xQ l goal ys r j,y∈ys
 |[],_,_,_=>⟨List.Pairwise.nil,fun _ h=>nomatch h⟩
 |y::ys,r,j,a=>by
  obtain ⟨a1,a2⟩:=Ll.mp a;have ih:=Hb.fl (l:=l) (goal:=goal) ys (rp l goal (tl y) 100 r j).1 (rp l goal (tl y) 100 r j).2.1 a2;refine ⟨Lm.mpr ⟨List.pairwise_replicate.mpr (.inr (eH _)),ih.1,fun x hx z hz=>?_⟩,fun z hz=>?_⟩
  ·rw [(List.mem_replicate.mp hx).2];exact a1 z (ih.2 z hz)
  ·rcases Ld.mp hz with h|h
   ·rw [(List.mem_replicate.mp h).2]; exact KU
   ·exact KS _ (ih.2 z h)
theorem Hb.ord {xs:List Ml} (a:Hb xs):Hg (xs.map md)=true:=by
 unfold Hg;rw [List.all_eq_true];intro k hk;have hk:=Lh.mp hk;rw [List.length_map] at hk;have h1:k<xs.length:=by lia
 have h2:k+1<xs.length:=by lia
 have:=List.pairwise_iff_getElem.mp a k (k+1) h1 h2 0x1;have e1:(xs.map md).getD (k+1) .none=md xs[k+1]:=by simp [List.getD,h2]
 have e2:(xs.map md).getD k .none=md xs[k]:=by simp [List.getD,h1]
 rw [e1,e2,this];rfl
structure Lay (m c:Nat) (L:List Ml):Prop where
 ok:∀y∈L,oP m c y/\AF m c y=true
 len:L.length<=12
 ord:Hg (L.map md)=true
theorem Lay.need {m c:Nat}:∀{L:List Ml},(∀y∈L,oP m c y/\AF m c y=true)->(L.map tl).flatten.length<=13*L.length
 |[],_=>by simp
 |y::L,h=>by
  have h1:=(h y KU).1.len;have h2:=Lay.need (L:=L) fun z hz=>h z (KS _ hz);rw [List.map_cons,List.flatten_cons,List.length_append,List.length_cons];lia
theorem G8 {fr:DS->M (List DV)} {δ:DS} {xs:List DV} {ds:List D} (h:fr δ=rt xs) (hd:d3 xs=some ds) (hl:ds.length<=1000000):bV fr δ=rt (.new ds):=by
 unfold bV;rw [h,aE,hd,a8,aE,if_pos hl]
theorem Ir (K:Lb) (ns:List Int) (hand:List Tl):∃j:Int,cq K [.scr K ns,.d (.list (hand.map pr))]=rt (.d (.int j))/\0<=j/\j<=2:=by
 have h0:=Int.emod_nonneg (bC ns 1) (show (4:Int)≠0 by decide);have h4:=Int.emod_lt_of_pos (bC ns 1) (show (0:Int)<4 by decide);have e1:aN Cj (aa (e2 gn (aN cy (aa (af 1) ai)) (eC (.int 6))) ai) [some (.scr K ns),some (.d (.list (hand.map pr))),some (.d (.int (bC ns 1)))]=rt (.d (.int (if (hand.length:Int)<6 then 1 else 0))):=by
  refine (cm (bj ((au (x:=.d (.int (hand.length:Int))) (y:=.d (.int 6)) ((cm (bj (x:=.d (.list (hand.map pr))) rfl)).trans (f6 hand)) rfl).trans (d9 _ _)))).trans ?_;by_cases h:(hand.length:Int)<6
  ·rw [if_pos h,Ls h]; rfl
  ·rw [if_neg h,Lr h]; rfl
 have e2':∃q:Int,1<=q/\q<=2/\e2 cb (bV (aa (eC (.int 1)) (aa (eC (.int 2)) ai))) (aN Cj (aa (e2 gn (aN cy (aa (af 1) ai)) (eC (.int 6))) ai)) [some (.scr K ns),some (.d (.list (hand.map pr))),some (.d (.int (bC ns 1)))]=rt (.d (.int q)):=by
  by_cases h:(hand.length:Int)<6
  ·rw [if_pos h] at e1;exact ⟨2,0x3,0x3,(au (x:=.new [.int 1,.int 2]) rfl e1).trans (oS rfl)⟩
  ·rw [if_neg h] at e1;exact ⟨1,0x3,0x3,(au (x:=.new [.int 1,.int 2]) rfl e1).trans (oS rfl)⟩
 obtain ⟨q,q1,q2,e2''⟩:=e2';have fin:∀j:Int,atI [PyData.int 0,.int 0,.int 1,.int q] (bC ns 1 % 4)=some (.int j)->cq K [.scr K ns,.d (.list (hand.map pr))]=rt (.d (.int j)):=fun j hj=>by
  unfold cq;refine eF (x:=.d (.int j)) ?_;unfold iC;refine hU (δ':=[some (.scr K ns),some (.d (.list (hand.map pr))),some (.d (.int (bC ns 1)))]) (fL (x:=.d (.int (bC ns 1))) (vT (K:=K) (ns:=ns) rfl rfl 0x3) rfl rfl) (bG ?_);refine (au (x:=.new [.int 0,.int 0,.int 1,.int q]) (y:=.d (.int (bC ns 1 % 4))) ?_ ((au (x:=.d (.int (bC ns 1))) (y:=.d (.int 4)) rfl rfl).trans (dJ 0x3))).trans (oS hj);exact G8 (Iy (x:=.d (.int 0)) (y:=.d (.int 0)) (z:=.d (.int 1)) (u:=.d (.int q)) rfl rfl rfl e2'') rfl 0x4
 have hc:bC ns 1 % 4=0\/bC ns 1 % 4=1\/bC ns 1 % 4=2\/bC ns 1 % 4=3:=by lia
 rcases hc with h|h|h|h
 ·exact ⟨0,fin 0 (by rw [h]; rfl),0x3,0x3⟩
 ·exact ⟨0,fin 0 (by rw [h]; rfl),0x3,0x3⟩
 ·exact ⟨1,fin 1 (by rw [h]; rfl),0x3,0x3⟩
 ·exact ⟨q,fin q (by rw [h]; rfl),0x1,0x1⟩
variable {m c:Nat} {h:List Tl} {j:Int}
theorem sC (H:Hand m c h j) {t:Tl} (ht:bh m c t=true) (h2:gr h t<2) (hl:h.length<12):Hand m c (kW (h++[t])) j:=by
 have p:=gP (h++[t]);refine ⟨by rw [p.length_eq,List.length_append]; show h.length+1<=12; lia,H.j0,H.j2,fun q hq=>?_,fun q=>?_,sU _⟩
 ·rcases Ld.mp (p.mem_iff.mp hq) with z|z
  ·exact H.tile q z
  ·rw [Lg.mp z]; exact ht
 ·rw [lJ,p.count_eq,<-lJ,tu];have:=H.two q;split
  ·rename_i e; subst e; lia
  ·lia
theorem FV (hm:m<=13) (h1:1<=c) (h4:c<=4) (H:Hand m c h j) (hl:h.length<12):HE m c h j=(iM m c).filter fun t=>GO m c (kW (h++[t])) j&&decide (gr h t<2):=by
 unfold HE;rw [if_neg 0x1,List.filter_filter];refine List.filter_congr fun t ht=>?_;by_cases hc:gr h t<2
 ·rw [Ls hc,Bool.and_true,Bool.and_true];exact Hf hm h1 h4 t (h:=h) (sC H (v7.mp ht) hc hl) ((gP _).trans List.perm_append_comm)
 ·rw [Lr hc,Bool.and_false,Bool.and_false]
theorem Jf:(GW m c h j==bf h)=GO m c h j:=by
 have e:GW m c h j=bf h-fF (tV m c h j) h j:=rfl;unfold GO;rw [e];by_cases hz:fF (tV m c h j) h j=0
 ·rw [hz,Ls rfl,Int.sub_zero]; exact beq_self_eq_true _
 ·rw [Lr hz];exact beq_false_of_ne 0x1
noncomputable def jH:List Tl:=(List.range 12).map fun (k:Nat)=>(1+(k:Int) / 2,0)
theorem qk (h0:0<=j) (h2:j<=2):Hand 6 1 jH j:=⟨0x3,h0,h2,0x3,fun p=>by
 by_cases hp:p∈jH
 ·exact (by decide +kernel:∀p∈jH,gr jH p<=2) p hp
 ·rw [lJ,List.count_eq_zero_of_not_mem hp]; decide,by unfold v3; decide +kernel⟩
theorem DW (h0:0<=j) (h2:j<=2):GO 6 1 jH j=true:=by
 have H:=qk h0 h2;have T:=t7 (m:=6) (c:=1) 0x3 0x3 0x3 jH j;have hj:jl jH j (tl (.r 0 1 6))=j:=by
  unfold jl;rw [show (tl (.r 0 1 6)).length=6 from by decide +kernel,show (av jH (tl (.r 0 1 6))).length=6 from by decide +kernel,show jH.length=12 from by decide +kernel];lia
 have hw:tl (.r 0 1 6)∈(qH 6 1 jH j).map tl:=by
  refine Lf.mpr ⟨.r 0 1 6,Li.mpr ⟨?_,Ls (by rw [hj]; exact h0)⟩,rfl⟩;unfold uh;refine KY _ (List.mem_flatMap.mpr ⟨0,0x3,List.mem_flatMap.mpr ⟨0,0x3,Lf.mpr ⟨3,0x3,rfl⟩⟩⟩)
 have h1:=T.opt H.stt (Ws:=[tl (.r 0 1 6),tl (.r 0 1 6)]) ⟨fun w hw'=>by
  rcases Lc.mp hw' with z|z
  ·rw [z]; exact hw
  ·rw [Lg.mp z]; exact hw,by
  show 0<=jl jH j ([tl (.r 0 1 6),tl (.r 0 1 6)].flatten);unfold jl;rw [show ([tl (.r 0 1 6),tl (.r 0 1 6)].flatten).length=12 from by decide +kernel,show (av jH [tl (.r 0 1 6),tl (.r 0 1 6)].flatten).length=0 from by decide +kernel,show jH.length=12 from by decide +kernel];lia⟩
 rw [show av jH [tl (.r 0 1 6),tl (.r 0 1 6)].flatten=[] from by decide +kernel] at h1;have h3:=gL (t4 (m:=6) (c:=1) 0x3 0x3 0x3 jH j) _ jH j (K2 _) H.one;have e:bf []=0:=rfl;unfold GO;exact Ls 0x1
noncomputable def Dg (a:Nat):List Tl:=jH.take a++jH.drop (a+1)
theorem vK {a:Nat} (ha:a<12) (h0:0<=j) (h2:j<=2):Hand 6 1 (Dg a) j:=by
 have H:=qk h0 h2;have hs:(Dg a).Sublist jH:=by
  unfold Dg
  conv=>rhs; rw [<-List.take_append_drop a jH]
  exact (List.Sublist.refl _).append (by rw [<-List.drop_drop]; exact List.drop_sublist _ _)
 exact ⟨Lp hs.length_le H.len,h0,h2,fun p hp=>H.tile p (hs.subset hp),fun p=>by
  have:=H.two p;rw [lJ] at this ⊢;have:=hs.count_le p;lia,H.ord.sublist hs⟩
theorem zW:∀a∈List.range 12,(Dg a).length=11/\((iM 6 1).filter fun t=>decide (gr (Dg a) t<2))=[jH.getD a (0,0)]/\(Dg a++[jH.getD a (0,0)]).isPerm jH=true:=by decide +kernel
theorem CS {a:Nat} (ha:a<12) (h0:0<=j) (h2:j<=2):HE 6 1 (Dg a) j=[jH.getD a (0,0)]:=by
 obtain ⟨f1,f2,f3⟩:=zW a (Lh.mpr ha);have hp:=List.isPerm_iff.mp f3;rw [FV 0x3 0x3 0x3 (vK ha h0 h2) 0x1,<-List.filter_filter,f2];rw [List.filter_cons_of_pos,List.filter_nil];rw [G7 hp (qk h0 h2).ord];exact DW h0 h2
noncomputable def KD (m c:Nat):List Tl:=((List.range (m*c)).map fun (k:Nat)=>(1+(k:Int) % (m:Int),(k:Int) / (m:Int))).take 6
theorem EK (hm:3<=m) (hl:(KD m c).length=6) (h0:0<=j) (h2:j<=2):Hand m c (kW (KD m c++KD m c)) j/\(kW (KD m c++KD m c)).length=12:=by
 have p:=gP (KD m c++KD m c);have hlen:(kW (KD m c++KD m c)).length=12:=by rw [p.length_eq,List.length_append,hl]
 have hnd:(KD m c).Nodup:=by
  unfold KD;refine List.Nodup.sublist (List.take_sublist _ _) ?_;refine List.Pairwise.map _ (fun a b (h:a≠b) e=>h ?_) List.nodup_range;have e1:=congrArg Prod.fst e;have e2:=congrArg Prod.snd e;simp only at e1 e2;have ha:=Int.emod_add_mul_ediv (a:Int) (m:Int);have hb:=Int.emod_add_mul_ediv (b:Int) (m:Int);rw [e2,show (a:Int) % (m:Int)=(b:Int) % (m:Int) by lia] at ha;lia
 refine ⟨⟨0x1,h0,h2,fun q hq=>?_,fun q=>?_,sU _⟩,hlen⟩
 ·have OZ:q∈KD m c:=by
   rcases Ld.mp (p.mem_iff.mp hq) with z|z <;> exact z
  obtain ⟨k,hk,rfl⟩:=Lf.mp ((List.take_sublist _ _).subset OZ);have hk':=Lh.mp hk;have m0:(0:Int)<(m:Int):=by lia
  have a1:=Int.emod_nonneg (k:Int) (show (m:Int)≠0 by lia);have a2:=Int.emod_lt_of_pos (k:Int) m0;have a3:(0:Int)<=(k:Int) / (m:Int):=Int.ediv_nonneg 0x1 0x1;have a4:(k:Int) / (m:Int)<(c:Int):=Int.ediv_lt_of_lt_mul m0 (by rw [Int.mul_comm]; exact_mod_cast hk');unfold bh;simp only [Bool.and_eq_true,decide_eq_true_eq];lia
 ·rw [lJ,p.count_eq,List.count_append];have:=List.nodup_iff_count.mp hnd q;lia
end LW
namespace K6
open PySem PySem.Spec L2 L3 LW
theorem Fo {m c:Nat} (hm:m<=13) (h1:1<=c) (h4:c<=4) {h:List Tl} {j:Int} (H:Hand m c h j):dH (jU 12) [.d (.int (m:Int)),.d (.int (c:Int)),.d (.list (h.map pr)),.d (.int j)]=rt (.d (.bool (GO m c h j))):=by
 unfold dH pQ;refine eF (x:=.d (.bool (GO m c h j))) (bG ?_);rw [au (x:=.d (.int (GW m c h j))) (y:=.d (.int (bf h))) ((au (x:=.d (qT (GW m c h j,BL m c h j))) (y:=.d (.int 0)) (aY (n:=4) (Iy (x:=.d (.int (m:Int))) (y:=.d (.int (c:Int))) (z:=.d (.list (h.map pr))) (u:=.d (.int j)) rfl rfl rfl rfl) rfl rfl (zP hm h1 h4 H)) rfl).trans (a5 rfl)) (xf rfl (by have:=H.len; lia)),ju,Jf]
variable {ms:List D} {k:Nat}
theorem CZ:sZ ms none (some (k:Int))=ms.take k:=by
 unfold sZ;rw [HT.sIx_nat,HT.sIx_none,List.take_eq_take_min (l:=ms)];rfl
variable {fa fb:DS->M DV} {δ:DS}
theorem yg {x:DV} (h1:fa δ=rt x) (hx:k7 x=some ms) (h2:fb δ=rt (.d (.int (k:Int)))):rj fa fb δ=rt (.new (ms.take k)):=by
 unfold rj;rw [h1,aE,h2,aE,C1,aE];unfold vw;rw [hx,a8,aE,CZ]
theorem EA {x:DV} (h1:fa δ=rt x) (hx:k7 x=some ms) (h2:fb δ=rt (.d (.int (k:Int)))) (hk:k<=ms.length):qp fa fb δ=rt (.new (ms.drop k)):=by
 unfold qp;rw [h1,aE,h2,aE,C1,aE];unfold vw;rw [hx,a8,aE,vj hk]
section
variable {P:Program} {w:World} {C CT Eh Ehs El:Addr}
theorem JV {fc:DS->M DV} {m c:Nat} (hm:m<=13) (h1:1<=c) (h4:c<=4) {h:List Tl} {j:Int} {x:DV} (H:Hand m c h j) (ha:fa δ=rt (hs C m c)) (hb:fb δ=rt x) (hx:args [hs C m c,x,.d (.int j)]=some [hs C m c,.d (.list (h.map pr)),.d (.int j)]) (hc:fc δ=rt (.d (.int j))) :
  aN (eB 3 (cf P w C CT Eh El (kN P w CT 12))) (aa fa (aa fb (aa fc ai))) δ=rt (.new ((HE m c h j).map pr)):=
 gH (n:=3) (fW (x:=hs C m c) (y:=x) (z:=.d (.int j)) ha hb hc) hx rfl (wZ hm h1 h4 H)
theorem B6 (cell:Int):d8 P w C CT Eh Ehs El (kN P w CT 12) [.d (.int cell)]=rt (.d (.bool true)):=by
 have a0:=Int.emod_nonneg cell (show (12:Int)≠0 by decide);have a1:=Int.emod_lt_of_pos cell (show (0:Int)<12 by decide);obtain ⟨a,ha⟩:=Int.eq_ofNat_of_zero_le a0;have Ms:a<12:=by lia
 have b0:=Int.emod_nonneg (cell / 12) (show (2:Int)≠0 by decide);have b1:=Int.emod_lt_of_pos (cell / 12) (show (0:Int)<2 by decide);have hT:(jH.map pr).length=12:=by rw [List.length_map]; decide
 unfold d8;refine eF (x:=.d (.bool true)) ?_;unfold kX;refine hU (δ':=[some (.d (.int cell)),some (.own (jH.map pr)),none]) (fL (x:=.new (jH.map pr)) ?_ rfl rfl) ?_
 ·refine bb (fA (j:=12) (bj rfl) 0x3 0x3) (by rw [dt]; decide) ?_;unfold cH jH;rw [List.map_map];refine cK fun k hk=>?_;refine fR (a:=.int (1+(k:Int) / 2)) (b:=.int 0) ?_ rfl;refine (au (x:=.d (.int 1)) (y:=.d (.int ((k:Int) / 2))) rfl ((au (x:=.d (.int (0+(k:Int)))) (y:=.d (.int 2)) rfl rfl).trans ?_)).trans (bp _ _);rw [ko 0x3 0x3,Int.zero_add]
 refine hU (δ':=[some (.d (.int cell)),some (.own (jH.map pr)),some (.d (.int (a:Int)))]) (fL (x:=.d (.int (a:Int))) ((au (x:=.d (.int cell)) (y:=.d (.int 12)) rfl rfl).trans (by rw [dJ 0x3,ha])) rfl rfl) ?_;refine bG ((au (x:=.new ((HE 6 1 (Dg a) (cell / 12 % 2)).map pr)) (y:=.new [pr (jH.getD a (0,0))]) (JV (m:=6) (c:=1) 0x3 0x3 0x3 (x:=.new ((Dg a).map pr)) (vK Ms b0 0x1) (Ki rfl rfl 0x3 0x3 0x3 0x3) ?_ rfl ?_) ?_).trans ?_)
 ·refine (au (x:=.new ((jH.map pr).take a)) (y:=.new ((jH.map pr).drop (a+1))) (yg (x:=.own (jH.map pr)) rfl rfl rfl) (EA (x:=.own (jH.map pr)) rfl rfl ((au (x:=.d (.int (a:Int))) (y:=.d (.int 1)) rfl rfl).trans (bp _ _)) 0x1)).trans ?_;rw [hW rfl rfl rfl (by rw [List.length_take,List.length_drop]; lia)];unfold Dg;rw [List.map_append,List.map_take,List.map_drop]
 ·exact (au (x:=.d (.int (cell / 12))) (y:=.d (.int 2)) ((au (x:=.d (.int cell)) (y:=.d (.int 12)) rfl rfl).trans (ko 0x3 0x3)) rfl).trans (dJ 0x3)
 ·exact CC ((au (x:=.own (jH.map pr)) (y:=.d (.int (a:Int))) rfl rfl).trans (yj (Cp (by rw [List.length_map] at hT; lia) (0,0))))
 ·rw [CS Ms b0 0x1];exact (vx (neg:=false) (ps:=[jH.getD a (0,0)]) (qs:=[jH.getD a (0,0)]) rfl rfl).trans 0x4
end
noncomputable abbrev d6 (h:List Tl):Option DV:=some (.d (.list (h.map pr)))
noncomputable abbrev nm (i:Int):Option DV:=some (.d (.int i))
noncomputable abbrev bl (b:Bool):Option DV:=some (.d (.bool b))
noncomputable def qδ (K:Lb) (ns:List Int) (C:Addr) (m c:Nat) (x4 x5 x6 x7 x8 x9 x10 NY NO x13 x14:Option DV):DS:=[some (.scr K ns),nm m,nm c,some (hs C m c),x4,x5,x6,x7,x8,x9,x10,NY,NO,x13,x14]
theorem Gr:gx true (.new []) (.new [])=rt (.d (.bool false)):=rfl
theorem Ae (ps:List Tl) (δ:DS) (fi:DS->M (List D)) (hf:fi δ=rt (ps.map pr)) (hl:ps.length<=1000):aN oi (aa (aK 1 [] fi (aq 0) bA (Gw "tuple" (af 0))) ai) δ=rt (.d (.bool true)):=by
 refine (cm (bj (bb hf (by rw [List.length_map]; lia) (cK (g:=fun _=>PyData.bool true) fun p _=>?_)))).trans ?_
 ·exact B3 (x:=.d (pr p)) rfl rfl rfl
 ·have:(ps.map fun _=>PyData.bool true)=(ps.map fun _=>true).map PyData.bool:=by rw [List.map_map]; rfl
  rw [this,l6,show ((ps.map fun _=>true).all id)=true by simp]
noncomputable def dB:DS->M Out:=(bH (aR 12 (aN lD (aa (e2 aw (af 4) (bV (aa (aZ (aa (af 10) (aa (af 11) ai))) ai))) ai))) (fun δ=>(eQ (jJ (fun δ=>bd (e2 gn (k9 (af 12) (aZ (aa (af 10) (aa (af 11) ai)))) (eC (.int 3)) δ) bD) (fun δ=>bd ((aN (ay 4 (dH (jU 12))) (aa (af 1) (aa (af 2) (aa (af 12) (aa (af 5) ai))))) δ) bD)) (nE 9 (aZ (aa (af 10) (aa (af 11) ai)))) bK) (frz 12 δ)))
noncomputable def qq (m c:Nat) (h:List Tl) (j:Int) (t:Tl):Bool:=GO m c (kW (h++[t])) j&&decide (gr h t<2)
section
variable {K:Lb} {ns:List Int} {C:Addr} {m c:Nat} {h:List Tl} {j:Int} {x6 x7 x8 x13 x14:Option DV}
theorem CA (hm:m<=13) (h1:1<=c) (h4:c<=4) (H:Hand m c h j) (hl:h.length<12) {t:Tl} (tk:bh m c t=true) (M5:List Tl) (hd:M5.length<=1000) (NO:Option DV) :
  dB (qδ K ns C m c (d6 h) (nm j) x6 x7 x8 (some (.own (M5.map pr))) (nm t.1) (nm t.2) NO x13 x14)=rt (.nx (qδ K ns C m c (d6 h) (nm j) x6 x7 x8 (some (.own ((M5++[t].filter (qq m c h j)).map pr))) (nm t.1) (nm t.2) (d6 (kW (h++[t]))) x13 x14)):=by
 unfold dB;refine hU (δ':=qδ K ns C m c (d6 h) (nm j) x6 x7 x8 (some (.own (M5.map pr))) (nm t.1) (nm t.2) (some (.own ((kW (h++[t])).map pr))) x13 x14) (fL (x:=.new ((kW (h++[t])).map pr)) (ni (x:=.new ((h++[t]).map pr)) (ps:=h++[t]) ((au (x:=.d (.list (h.map pr))) (y:=.new [pr t]) rfl (CC (fR rfl rfl))).trans (by rw [List.map_append]; exact hW rfl rfl rfl (by rw [List.length_map]; show h.length+1<=1000000; lia))) rfl (by rw [List.length_append]; show h.length+1<64; lia) (xF _)) rfl rfl) ?_;change eQ _ _ _ (qδ K ns C m c (d6 h) (nm j) x6 x7 x8 (some (.own (M5.map pr))) (nm t.1) (nm t.2) (d6 (kW (h++[t]))) x13 x14)=_;have hcn:gr (kW (h++[t])) t=gr h t+1:=by
  rw [lJ,(gP _).count_eq,<-lJ,tu,if_pos rfl]
 have q1:(fun δ=>bd (e2 gn (k9 (af 12) (aZ (aa (af 10) (aa (af 11) ai)))) (eC (.int 3)) δ) bD) (qδ K ns C m c (d6 h) (nm j) x6 x7 x8 (some (.own (M5.map pr))) (nm t.1) (nm t.2) (d6 (kW (h++[t]))) x13 x14)=rt (decide (gr h t<2)):=by
  refine aU ((au (x:=.d (.int (gr (kW (h++[t])) t))) (y:=.d (.int 3)) ((wM (x:=.d (.list ((kW (h++[t])).map pr))) (y:=.d (pr t)) rfl rfl (fR rfl rfl)).trans (pU _ t)) rfl).trans ((d9 _ _).trans ?_));rw [hcn,show decide (gr h t+1<3)=decide (gr h t<2) from decide_eq_decide.mpr 0x1]
 by_cases h2:gr h t<2
 ·rw [Ls h2] at q1;have q2:(fun δ=>bd ((aN (ay 4 (dH (jU 12))) (aa (af 1) (aa (af 2) (aa (af 12) (aa (af 5) ai))))) δ) bD) (qδ K ns C m c (d6 h) (nm j) x6 x7 x8 (some (.own (M5.map pr))) (nm t.1) (nm t.2) (d6 (kW (h++[t]))) x13 x14)=rt (GO m c (kW (h++[t])) j):=
   aU (aY (n:=4) (Iy (x:=.d (.int (m:Int))) (y:=.d (.int (c:Int))) (z:=.d (.list ((kW (h++[t])).map pr))) (u:=.d (.int j)) rfl rfl rfl rfl) rfl rfl (Fo hm h1 h4 (sC H tk h2 hl)))
  have eq:qq m c h j t=GO m c (kW (h++[t])) j:=by unfold qq; rw [Ls h2,Bool.and_true]
  cases hg:GO m c (kW (h++[t])) j with
  |true=>
   rw [hg] at q2 eq;rw [List.filter_cons_of_pos eq,List.filter_nil,List.map_append];refine HU (uD q1 q2) ?_;rw [uk (xs:=M5.map pr) (d:=pr t) rfl (fR rfl rfl) rfl (by rw [List.length_map]; lia)];rfl
  |false=>
   rw [hg] at q2 eq;rw [List.filter_cons_of_neg (by rw [eq]; decide),List.filter_nil,List.append_nil];exact xT (uD q1 q2) rfl
 ·rw [Lr h2] at q1;have eq:qq m c h j t=false:=by unfold qq; rw [Lr h2,Bool.and_false]
  rw [List.filter_cons_of_neg (by rw [eq]; decide),List.filter_nil,List.append_nil];exact xT (Cf q1) rfl
theorem DM (hm:m<=13) (h1:1<=c) (h4:c<=4) (H:Hand m c h j) (hl:h.length<12) {n0:Nat} (hn:n0<m) (M5:List Tl) (hd:M5.length<=900) (NY NO:Option DV) :
  ∃Mz Mt,b9 (lx (aa (af 2) ai)) (aq 11) dB (qδ K ns C m c (d6 h) (nm j) x6 x7 x8 (some (.own (M5.map pr))) (nm (1+(n0:Int))) NY NO x13 x14)=rt (.nx (qδ K ns C m c (d6 h) (nm j) x6 x7 x8 (some (.own ((M5++(fO c n0).filter (qq m c h j)).map pr))) (nm (1+(n0:Int))) Mz Mt x13 x14)):=by
 obtain ⟨δ',e,Mz,Mt,hδ⟩:=gd (f:=fun (k:Nat)=>PyData.int (0+(k:Int))) (i:=11) (N:=c) (B:=dB) (all:=List.range c)
  (fun pre δ=>∃Mz Mt,δ=qδ K ns C m c (d6 h) (nm j) x6 x7 x8 (some (.own ((M5++(pre.map fun (x:Nat)=>((1+(n0:Int),(x:Int)):Tl)).filter (qq m c h j)).map pr))) (nm (1+(n0:Int))) Mz Mt x13 x14)
  (fun pre a δ ha hp ⟨Mz,Mt,hδ⟩=>by
   subst hδ;have hal:=Lh.mp ha;have tk:bh m c ((1+(n0:Int),(a:Int)):Tl)=true:=by
    unfold bh;simp only [Bool.and_eq_true,decide_eq_true_eq];lia
   have hf:=List.length_filter_le (qq m c h j) (pre.map fun (x:Nat)=>((1+(n0:Int),(x:Int)):Tl));rw [List.length_map] at hf;refine ⟨_,?_,nm (a:Int),d6 (kW (h++[((1+(n0:Int),(a:Int)):Tl)])),rfl⟩;rw [show ((pre++[a]).map fun (x:Nat)=>((1+(n0:Int),(x:Int)):Tl))=(pre.map fun (x:Nat)=>((1+(n0:Int),(x:Int)):Tl))++[((1+(n0:Int),(a:Int)):Tl)] from List.map_append,List.filter_append,<-List.append_assoc];have:=CA (K:=K) (ns:=ns) (C:=C) (x6:=x6) (x7:=x7) (x8:=x8) (x13:=x13) (x14:=x14) hm h1 h4 H hl tk (M5++(pre.map fun (x:Nat)=>((1+(n0:Int),(x:Int)):Tl)).filter (qq m c h j)) (by rw [List.length_append]; lia) Mt;rw [Int.zero_add];exact this)
  (List.range c) [] (qδ K ns C m c (d6 h) (nm j) x6 x7 x8 (some (.own (M5.map pr))) (nm (1+(n0:Int))) NY NO x13 x14) (fun _ h=>h) 0x4 ⟨NY,NO,0x4⟩
 refine ⟨Mz,Mt,jM (xs:=cH 0 c) ((fA (j:=(c:Int)) (bj rfl) 0x1 0x1).trans (by rw [show (c:Int).toNat=c by lia])) ?_⟩;unfold cH;rw [e,hδ];rfl
theorem Ee (hm:m<=13) (h1:1<=c) (h4:c<=4) (H:Hand m c h j) (hl:h.length<12) (x10 NY NO:Option DV) :
  ∃LU Mz Mt,b9 (k8 (aa (eC (.int 1)) (aa (e2 aw (af 1) (eC (.int 1))) ai))) (aq 10) (b9 (lx (aa (af 2) ai)) (aq 11) dB) (qδ K ns C m c (d6 h) (nm j) x6 x7 x8 (some (.own [])) x10 NY NO x13 x14)=rt (.nx (qδ K ns C m c (d6 h) (nm j) x6 x7 x8 (some (.own (((iM m c).filter (qq m c h j)).map pr))) LU Mz Mt x13 x14)):=by
 obtain ⟨δ',e,LU,Mz,Mt,hδ⟩:=gd (f:=fun (k:Nat)=>PyData.int (1+(k:Int))) (i:=10) (N:=m) (B:=b9 (lx (aa (af 2) ai)) (aq 11) dB) (all:=List.range m)
  (fun pre δ=>∃LU Mz Mt,δ=qδ K ns C m c (d6 h) (nm j) x6 x7 x8 (some (.own (((pre.flatMap (fO c)).filter (qq m c h j)).map pr))) LU Mz Mt x13 x14)
  (fun pre a δ ha hp ⟨LU,Mz,Mt,hδ⟩=>by
   subst hδ;have hal:=Lh.mp ha;have hf:=List.length_filter_le (qq m c h j) (pre.flatMap (fO c));have hfl:=c6 (g:=fun a=>(fO c a).map pr) (k:=5) (fun a=>by unfold fO; simp only [List.length_map,List.length_range]; lia) pre;have hfe:(pre.flatMap (fO c)).length=(pre.flatMap fun a=>(fO c a).map pr).length:=by rw [<-List.map_flatMap,List.length_map]
   obtain ⟨z11,z12,er⟩:=DM (K:=K) (ns:=ns) (C:=C) (x6:=x6) (x7:=x7) (x8:=x8) (x13:=x13) (x14:=x14) hm h1 h4 H hl hal ((pre.flatMap (fO c)).filter (qq m c h j)) 0x1 Mz Mt;refine ⟨_,er,nm (1+(a:Int)),z11,z12,?_⟩;rw [List.flatMap_append,List.filter_append,show [a].flatMap (fO c)=fO c a by simp])
  (List.range m) [] (qδ K ns C m c (d6 h) (nm j) x6 x7 x8 (some (.own [])) x10 NY NO x13 x14) (fun _ h=>h) 0x4 ⟨x10,NY,NO,0x4⟩
 refine ⟨LU,Mz,Mt,jM (xs:=cH 1 m) ((gN (i:=1) (j:=(m:Int)+1) (bW (x:=.d (.int 1)) (y:=.d (.int ((m:Int)+1))) rfl ((au (x:=.d (.int (m:Int))) (y:=.d (.int 1)) rfl rfl).trans (bp _ _))) 0x1 0x1 0x1 0x1).trans (by rw [show ((m:Int)+1-1).toNat=m by lia])) ?_⟩;unfold cH;rw [e,hδ];rfl
end
theorem G4 (P:Program) (w:World) (K:Lb) (C CT K7 K8 K9:Addr) (ns:List Int) (_:ns.length<=63):rJ P w K C CT K7 K8 K9 (kN P w CT 12) (jU 12) [.scr K ns]=rt (.d (.bool true)):=by
 obtain ⟨m',c',eh,g1,g2,g3,g4⟩:=EN K ns;obtain ⟨m,em⟩:=Int.eq_ofNat_of_zero_le (show 0<=m' by lia);obtain ⟨c,ec⟩:=Int.eq_ofNat_of_zero_le (show 0<=c' by lia);subst em ec;have hm:m<=13:=by lia
 have hc:c<=4:=by lia
 have hc1:1<=c:=by lia
 obtain ⟨h,e1,l1,t1,d1,o1⟩:=xp K ns m c 2 7 0x3 0x3 0x3 0x1 0x1 0x1 0x1;obtain ⟨j,ej,j0,j2⟩:=Ir K ns h;have H:Hand m c h j:=⟨0x1,j0,j2,t1,d1,xB o1⟩;have hl:h.length<12:=by lia
 have hmul:um (m:Int) (c:Int)=true:=by
  unfold um;simp only [Bool.or_eq_true,Bool.and_eq_true,decide_eq_true_eq];lia
 have hmc:m*c<=13*4:=Nat.mul_le_mul hm hc;have eHE:HE m c h j=(iM m c).filter (qq m c h j):=FV hm hc1 hc H hl;have hHE:(HE m c h j).length<=1000:=by rw [eHE]; exact Lp (List.length_filter_le _ _) (o7 hm hc)
 unfold rJ;refine eF (x:=.d (.bool true)) ?_;unfold FU;refine hU (δ':=[some (.scr K ns),some (.d (.int (m:Int))),some (.d (.int (c:Int))),none,none,none,none,none,none,none,none,none,none,none,none]) (FO (x:=.d (.tuple [.int (m:Int),.int (c:Int)])) (aY (bj rfl) rfl rfl eh) rfl rfl) ?_;refine hU (δ':=qδ K ns C m c none none none none none none none none none none none) (fL (x:=hs C m c) (Ki rfl rfl g1 g2 g3 g4) rfl rfl) ?_;refine hU (δ':=qδ K ns C m c (some (.own (h.map pr))) none none none none none none none none none none) (fL (x:=.new (h.map pr)) (aY (n:=5) (KA (x:=.scr K ns) (y:=.d (.int 2)) (z:=.d (.int (m:Int))) (u:=.d (.int (c:Int))) (v:=.d (.int 7)) rfl rfl rfl rfl rfl) rfl rfl e1) rfl rfl) ?_;change bH _ _ (qδ K ns C m c (d6 h) none none none none none none none none none none)=_;refine hU (δ':=qδ K ns C m c (d6 h) (nm j) none none none none none none none none none) (fL (x:=.d (.int j)) (aY (n:=2) (bW (x:=.scr K ns) (y:=.d (.list (h.map pr))) rfl rfl) rfl rfl ej) rfl rfl) ?_;refine hU (δ':=qδ K ns C m c (d6 h) (nm j) (some (.own (h.map pr))) none none none none none none none none) (fL (x:=.new (h.map pr)) ((cm (bj (x:=.d (.list (h.map pr))) rfl)).trans rfl) rfl rfl) ?_;change bH _ _ (qδ K ns C m c (d6 h) (nm j) (some (.own (h.map pr))) none none none none none none none none)=_;refine hU (δ':=qδ K ns C m c (d6 h) (nm j) (some (.own (h.map pr))) (bl (GO m c h j)) none none none none none none none) (fL (x:=.d (.bool (GO m c h j))) (aY (n:=4) (Iy (x:=.d (.int (m:Int))) (y:=.d (.int (c:Int))) (z:=.d (.list (h.map pr))) (u:=.d (.int j)) rfl rfl rfl rfl) rfl rfl (Fo hm hc1 hc H)) rfl rfl) ?_;change bH _ _ (qδ K ns C m c (d6 h) (nm j) (d6 h) (bl (GO m c h j)) none none none none none none none)=_;refine hU (δ':=qδ K ns C m c (d6 h) (nm j) (d6 h) (bl (GO m c h j)) none none none none none none none) (xT (rE (mK (aU (aY (n:=2) (bW (x:=.d (.bool (GO m c h j))) (y:=.d (.bool (GO m c h j))) (gH (n:=3) (fW (x:=hs C m c) (y:=.d (.list (h.map pr))) (z:=.d (.int j)) rfl rfl rfl) rfl rfl (vC hm hc1 hc H)) rfl) rfl rfl (Ef _))) rfl) (aU ((au (x:=.d (.list (h.map pr))) (y:=.d (.list (h.map pr))) rfl rfl).trans (by rw [t8 true h h _ rfl]; simp)))) rfl) ?_;refine hU (δ':=qδ K ns C m c (d6 h) (nm j) (d6 h) (bl (GO m c h j)) none none none none none none none) (xT (mK (aU (aY (n:=1) (bj (x:=.d (.int (bC ns 21))) (vT (K:=K) (ns:=ns) rfl rfl 0x3)) rfl rfl (B6 _))) rfl) rfl) ?_;refine hU (δ':=qδ K ns C m c (d6 h) (nm j) (d6 h) (bl (GO m c h j)) (some (.own ((KD m c).map pr))) none none none none none none) (fL (x:=.new ((KD m c).map pr)) ?_ rfl rfl) ?_
 ·have ec:aK 1 [1] (lx (aa (e2 eT (af 1) (af 2)) ai)) (aq 0) bA (aZ (aa (e2 aw (eC (.int 1)) (e2 iZ (af 0) (af 1))) (aa (e2 uJ (af 0) (af 1)) ai))) (qδ K ns C m c (d6 h) (nm j) (d6 h) (bl (GO m c h j)) none none none none none none none)=rt (.new (((List.range (m*c)).map fun (k:Nat)=>((1+(k:Int) % (m:Int),(k:Int) / (m:Int)):Tl)).map pr)):=by
   refine bb (xs:=cH 0 (m*c)) ((fA (j:=(m:Int)*(c:Int)) (bj ((au (x:=.d (.int (m:Int))) (y:=.d (.int (c:Int))) rfl rfl).trans (eJ hmul))) ?_ ?_).trans ?_) (by rw [dt]; lia) ?_
   ·have:(0:Int)<=(m:Int)*(c:Int):=Int.mul_nonneg 0x1 0x1;lia
   ·have:((m*c:Nat):Int)<=52:=by exact_mod_cast hmc
    rw [Int.natCast_mul] at this;lia
   ·rw [<-Int.natCast_mul,Int.toNat_natCast]
   ·unfold cH;rw [List.map_map];refine cK fun k hk=>?_;refine fR (a:=.int (1+(k:Int) % (m:Int))) (b:=.int ((k:Int) / (m:Int))) ((au (x:=.d (.int 1)) (y:=.d (.int ((k:Int) % (m:Int)))) rfl ((au (x:=.d (.int (0+(k:Int)))) (y:=.d (.int (m:Int))) rfl rfl).trans ?_)).trans (bp _ _)) ((au (x:=.d (.int (0+(k:Int)))) (y:=.d (.int (m:Int))) rfl rfl).trans ?_)
    ·rw [dJ 0x1,Int.zero_add]
    ·rw [ko 0x1 0x1,Int.zero_add]
  rw [yg (k:=6) ec rfl rfl];unfold KD;rw [List.map_take]
 have hif:∀F G:DS->M Out,eQ (jJ (fun δ=>bd (e2 (gx false) (aN cy (aa (af 8) ai)) (eC (.int 6)) δ) bD) (fun δ=>bd (e2 (gx true) (aN (eB 3 (cf P w C CT K7 K9 (kN P w CT 12))) (aa (af 3) (aa (aN lD (aa (e2 aw (af 8) (af 8)) ai)) (aa (af 5) ai)))) (bV ai) δ) bD)) F G (qδ K ns C m c (d6 h) (nm j) (d6 h) (bl (GO m c h j)) (some (.own ((KD m c).map pr))) none none none none none none)=G (qδ K ns C m c (d6 h) (nm j) (d6 h) (bl (GO m c h j)) (some (.own ((KD m c).map pr))) none none none none none none):=fun F G=>by
  have k1:(fun δ=>bd (e2 (gx false) (aN cy (aa (af 8) ai)) (eC (.int 6)) δ) bD) (qδ K ns C m c (d6 h) (nm j) (d6 h) (bl (GO m c h j)) (some (.own ((KD m c).map pr))) none none none none none none)=rt (((KD m c).length:Int)==6):=
   aU ((au (x:=.d (.int ((KD m c).length:Int))) (y:=.d (.int 6)) ((cm (bj (x:=.own ((KD m c).map pr)) rfl)).trans (lX _)) rfl).trans (ju _ _))
  by_cases h6:(KD m c).length=6
  ·rw [show (((KD m c).length:Int)==6)=true by rw [h6]; rfl] at k1;obtain ⟨HK,hK⟩:=EK (m:=m) (c:=c) 0x1 h6 j0 j2;refine xT (uD k1 (aU ((au (x:=.new ((HE m c (kW (KD m c++KD m c)) j).map pr)) (y:=.new []) (JV hm hc1 hc (x:=.new ((kW (KD m c++KD m c)).map pr)) HK rfl ?_ rfl rfl) rfl).trans ?_))) rfl
   ·refine ni (x:=.new ((KD m c++KD m c).map pr)) (ps:=KD m c++KD m c) ((au (x:=.own ((KD m c).map pr)) (y:=.own ((KD m c).map pr)) rfl rfl).trans ?_) rfl (by rw [List.length_append]; lia) (xF _);rw [List.map_append];exact hW rfl rfl rfl (by rw [List.length_map]; lia)
   ·have e0:HE m c (kW (KD m c++KD m c)) j=[]:=by unfold HE; rw [if_pos hK]
    rw [e0];exact Gr
  ·rw [show (((KD m c).length:Int)==6)=false from beq_false_of_ne 0x1] at k1;exact xT (Cf k1) rfl
 refine hU (δ':=qδ K ns C m c (d6 h) (nm j) (d6 h) (bl (GO m c h j)) (some (.own ((KD m c).map pr))) none none none none none none) ((hif _ _).trans rfl) ?_;have hor:∃b,(uL (fun δ=>bd (e2 mY (e2 eT (af 1) (af 2)) (eC (.int 12)) δ) bD) (uL (fun δ=>bd (e2 mY (aN cy (aa (af 4) ai)) (eC (.int 5)) δ) bD) (fun δ=>bd (e2 mY (af 5) (eC (.int 1)) δ) bD))) (qδ K ns C m c (d6 h) (nm j) (d6 h) (bl (GO m c h j)) (some (.own ((KD m c).map pr))) none none none none none none)=rt b:=by
  have k1:(fun δ=>bd (e2 mY (e2 eT (af 1) (af 2)) (eC (.int 12)) δ) bD) (qδ K ns C m c (d6 h) (nm j) (d6 h) (bl (GO m c h j)) (some (.own ((KD m c).map pr))) none none none none none none)=rt (decide ((12:Int)<(m:Int)*(c:Int))):=
   aU ((au (x:=.d (.int ((m:Int)*(c:Int)))) (y:=.d (.int 12)) ((au (x:=.d (.int (m:Int))) (y:=.d (.int (c:Int))) rfl rfl).trans (eJ hmul)) rfl).trans (gq _ _))
  have k2:(fun δ=>bd (e2 mY (aN cy (aa (af 4) ai)) (eC (.int 5)) δ) bD) (qδ K ns C m c (d6 h) (nm j) (d6 h) (bl (GO m c h j)) (some (.own ((KD m c).map pr))) none none none none none none)=rt (decide ((5:Int)<(h.length:Int))):=
   aU ((au (x:=.d (.int (h.length:Int))) (y:=.d (.int 5)) ((cm (bj (x:=.d (.list (h.map pr))) rfl)).trans (f6 h)) rfl).trans (gq _ _))
  have k3:(fun δ=>bd (e2 mY (af 5) (eC (.int 1)) δ) bD) (qδ K ns C m c (d6 h) (nm j) (d6 h) (bl (GO m c h j)) (some (.own ((KD m c).map pr))) none none none none none none)=rt (decide ((1:Int)<j)):=
   aU ((au (x:=.d (.int j)) (y:=.d (.int 1)) rfl rfl).trans (gq _ _))
  cases q1:decide ((12:Int)<(m:Int)*(c:Int)) with
  |true=>rw [q1] at k1; exact ⟨true,Ce k1⟩
  |false=>
   rw [q1] at k1;cases q2:decide ((5:Int)<(h.length:Int)) with
   |true=>rw [q2] at k2; exact ⟨true,rE k1 (Ce k2)⟩
   |false=>rw [q2] at k2; exact ⟨_,rE k1 (rE k2 k3)⟩
 obtain ⟨b,hb⟩:=hor;cases b with
 |true=>
  have e:∀G:DS->M Out,bH (eQ (uL (fun δ=>bd (e2 mY (e2 eT (af 1) (af 2)) (eC (.int 12)) δ) bD) (uL (fun δ=>bd (e2 mY (aN cy (aa (af 4) ai)) (eC (.int 5)) δ) bD) (fun δ=>bd (e2 mY (af 5) (eC (.int 1)) δ) bD))) (bt (eC (.bool true))) bK) G (qδ K ns C m c (d6 h) (nm j) (d6 h) (bl (GO m c h j)) (some (.own ((KD m c).map pr))) none none none none none none)=rt (.rt (.d (.bool true))):=fun G=>by
   unfold bH;rw [HU hb rfl];rfl
  exact e _
 |false=>
  refine hU (xT hb rfl) ?_;refine hU (δ':=qδ K ns C m c (d6 h) (nm j) (d6 h) (bl (GO m c h j)) (some (.own ((KD m c).map pr))) (some (.own [])) none none none none none) rfl ?_;obtain ⟨LU,Mz,Mt,ed⟩:=Ee (K:=K) (ns:=ns) (C:=C) (x6:=d6 h) (x7:=bl (GO m c h j)) (x8:=some (.own ((KD m c).map pr))) (x13:=none) (x14:=none) hm hc1 hc H hl none none none;rw [<-eHE] at ed;refine hU ed ?_;refine JC (I:=fun δ=>∃x13 x14,δ=qδ K ns C m c (d6 h) (nm j) (d6 h) (bl (GO m c h j)) (some (.own ((KD m c).map pr))) (some (.own ((HE m c h j).map pr))) LU Mz Mt x13 x14) (xs:=cH 0 2) ((fA (j:=2) (bj rfl) 0x3 0x3).trans rfl) ⟨none,none,rfl⟩ (fun x hx δ hI=>?_) fun δ hI=>bG rfl;obtain ⟨x13,x14,rfl⟩:=hI;refine ⟨qδ K ns C m c (d6 h) (nm j) (d6 h) (bl (GO m c h j)) (some (.own ((KD m c).map pr))) (some (.own ((HE m c h j).map pr))) LU Mz Mt (some (.d x)) (some (.own ((HE m c h j).map pr++[pr (1,0)]))),?_,_,_,rfl⟩;change bH _ _ (qδ K ns C m c (d6 h) (nm j) (d6 h) (bl (GO m c h j)) (some (.own ((KD m c).map pr))) (some (.own ((HE m c h j).map pr))) LU Mz Mt (some (.d x)) x14)=_;refine hU (δ':=qδ K ns C m c (d6 h) (nm j) (d6 h) (bl (GO m c h j)) (some (.own ((KD m c).map pr))) (some (.own ((HE m c h j).map pr))) LU Mz Mt (some (.d x)) (some (.own ((HE m c h j).map pr)))) (fL (x:=.new ((HE m c h j).map pr)) (JV hm hc1 hc (x:=.d (.list (h.map pr))) H rfl rfl rfl rfl) rfl rfl) ?_;refine hU (δ':=qδ K ns C m c (d6 h) (nm j) (d6 h) (bl (GO m c h j)) (some (.own ((KD m c).map pr))) (some (.own ((HE m c h j).map pr))) LU Mz Mt (some (.d x)) (some (.own ((HE m c h j).map pr)))) (xT (rE (mK (aU (B3 (x:=.own ((HE m c h j).map pr)) rfl rfl rfl)) rfl) (mK (aU (Ae (HE m c h j) _ _ (HD (x:=.own ((HE m c h j).map pr)) rfl rfl) hHE)) rfl)) rfl) ?_;refine hU (δ':=qδ K ns C m c (d6 h) (nm j) (d6 h) (bl (GO m c h j)) (some (.own ((KD m c).map pr))) (some (.own ((HE m c h j).map pr))) LU Mz Mt (some (.d x)) (some (.own ((HE m c h j).map pr)))) (xT (rE (aU ((au (x:=.own ((HE m c h j).map pr)) (y:=.own ((HE m c h j).map pr)) rfl rfl).trans ((vx (neg:=true) (ps:=HE m c h j) (qs:=HE m c h j) rfl rfl).trans 0x4))) (aU ((au (x:=.d (.list (h.map pr))) (y:=.d (.list (h.map pr))) rfl rfl).trans (by rw [t8 true h h _ rfl]; simp)))) rfl) ?_;rw [uk (xs:=(HE m c h j).map pr) (d:=pr (1,0)) rfl (fR rfl rfl) rfl (by rw [List.length_map]; lia)];rfl
open PyProof.Rows hiding St
variable {n:Nat}
theorem vS:∀{us:List Value},us.length=n+1->∃a r,us=a::r/\r.length=n:=fun {us} h=>by cases us with|nil=>cases h|cons a r=>exact ⟨a,r,rfl,Nat.succ.inj h⟩
variable {us:List Value}
theorem qy (h:us.length=1):∃a0,us=[a0]:=by
 obtain ⟨a0,r,e,h1⟩:=vS h;subst e;cases Lz h1;exact ⟨a0,rfl⟩
theorem oh (h:us.length=2):∃a0 a1,us=[a0,a1]:=by
 obtain ⟨a0,r,e,h1⟩:=vS h;subst e;obtain ⟨a1,rfl⟩:=qy h1;exact ⟨a0,a1,rfl⟩
theorem mU (h:us.length=3):∃a0 a1 a2,us=[a0,a1,a2]:=by
 obtain ⟨a0,r,e,h1⟩:=vS h;subst e;obtain ⟨a1,a2,rfl⟩:=oh h1;exact ⟨a0,a1,a2,rfl⟩
theorem Fj (h:us.length=4):∃a0 a1 a2 a3,us=[a0,a1,a2,a3]:=by
 obtain ⟨a0,r,e,h1⟩:=vS h;subst e;obtain ⟨a1,a2,a3,rfl⟩:=mU h1;exact ⟨a0,a1,a2,a3,rfl⟩
theorem Jz (h:us.length=5):∃a0 a1 a2 a3 a4,us=[a0,a1,a2,a3,a4]:=by
 obtain ⟨a0,r,e,h1⟩:=vS h;subst e;obtain ⟨a1,a2,a3,a4,rfl⟩:=Fj h1;exact ⟨a0,a1,a2,a3,a4,rfl⟩
noncomputable abbrev rX:Stmt:=oY (jB 14) 0
theorem Kz:FnScope ["self", "most", "colours"] ["self", "most", "colours"] (ak rX):=⟨rfl,rfl,rfl,0x2,rfl,0x2,0x2⟩
section
variable {P:Program} {w:World} {K:Lb} {mg:Str->Option Value} {base:Heap}
theorem yD {H:Hp} {p:V} {m c:Int}:RS [] [] H [some p,some (.int m),some (.int c)] [none,some (.d (.int m)),some (.d (.int c))]:=by
 refine ⟨rfl,fun a ha=>(nomatch ha),fun a ha=>(nomatch ha),fun i x h=>?_,fun i j x y v w a h1 h2 h3 h4 o1 o2=>?_⟩
 ·match i with
  |0=>cases h
  |1=>cases h; exact ⟨_,rfl,fun _=>nofun,.int m⟩
  |2=>cases h; exact ⟨_,rfl,fun _=>nofun,.int c⟩
  |i+3=>simp at h
 ·match i with
  |0=>cases h1
  |1=>cases h1; exact o1.elim
  |2=>cases h1; exact o1.elim
  |i+3=>simp at h1
theorem Ec {f C CB:Addr} {fd:FuncData} (Fu:Fun K "__init__" "House.__init__" rX f fd) (T:Tx K mg C) (O:Xc K mg "BadHouse" CB):FnOk P w K mg base (xq P w) 1 f fd ["self", "most", "colours"] (Kk C CB jK "most" "colours"):=by
 obtain ⟨oc,od,kV,doc,pm,an,LD,ct,NA,rfl,lk,M'⟩:=Fu.ex;refine C2 (k:=0) lk M' Kz (fun vs H Q E h=>?_) fun A outer s H vs Q E hr h=>?_
 ·obtain ⟨p,dx,m,c,rfl,_⟩:=h;rfl
 ·obtain ⟨p,dx,m,c,rfl,hp,k⟩:=h;have hu:=dC hr;have mk:xU (fj (xq P w) P w K mg base ["self", "most", "colours"] "House.__init__" (ak rX) f LD A outer s H E) E:=⟨hr.hd,fun pins σ H1 s1 h1 e cls vs I hm hE=>yd I hm hE⟩;refine ⟨_,gX (AG (gf (o6 (E:=E0) (fC hu) (fC hu) (ie T.i_LEAST_NUMBERS) (ag 1 (pv 1)) (ie T.i_MOST_NUMBERS))) (ic (qh mk O)) tO)
   (gX (AG (gf (o6 (E:=E0) (fC hu) (fC hu) (ie T.i_LEAST_COLOURS) (ag 2 (pv 2)) (ie T.i_MOST_COLOURS))) (ic (qh mk O)) tO)
   (gX (tH (pv 0) (pv 1) rfl) (ic (tH (pv 0) (pv 2) rfl)))),?_⟩
  refine ⟨[],[],_,.ok (!(decide (3<=m)&&decide (m<=13))),yD,?_,fun H1 s1=>?_⟩
  ·unfold gw Az;by_cases h3:3<=m <;> by_cases OQ:m<=13 <;> simp [eC,af,rt,bd,op,bD,h3,OQ]
  by_cases g1:(decide (3<=m)&&decide (m<=13))=true
  ·rw [g1];refine Ac ?_;refine ⟨[],[],_,.ok (!(decide (1<=c)&&decide (c<=4))),yD,?_,fun H2 s2=>?_⟩
   ·unfold gw Az;by_cases h3:1<=c <;> by_cases OQ:c<=4 <;> simp [eC,af,rt,bd,op,bD,h3,OQ]
   have kk:=k H2 (s1.trans s2);by_cases g2:(decide (1<=c)&&decide (c<=4))=true
   ·rw [g2];refine Ac ?_;rw [if_pos (by unfold jK; rw [g1,g2]; rfl)] at kk;refine ⟨_,rfl,_,rfl,p,C,dx,[],rfl,s2 _ _ (s1 _ _ hp),T.cl,T.n_most,0x3,?_⟩;exact ⟨_,rfl,_,rfl,p,C,dx,_,rfl,aW,T.cl,T.n_colours,by show 1<1000; decide,kk⟩
   ·have g2':(decide (1<=c)&&decide (c<=4))=false:=by simpa using g2
    rw [g2'];refine z5 ?_;rw [if_neg (by unfold jK; rw [g1,g2']; simp)] at kk;exact kk
  ·have g1':(decide (3<=m)&&decide (m<=13))=false:=by simpa using g1
   rw [g1'];refine z5 ?_;have kk:=k H1 s1;rw [if_neg (by unfold jK; rw [g1']; simp)] at kk;exact kk
end
abbrev jb (x y:Str) (st:Stmt) (ps:List Str):Prop:=∀(kV doc pm:Value) (an:Option Addr) (LD ct:Value) (us:List Value),us.length=ps.length->bindArgs (PySem.W.fnOf x y (eY st) (dD st) (ak st) .none kV doc pm an LD ct) ⟨us,[]⟩=pure (ps.zip us)
variable {K:Lb} {h:Heap} {mg:Str->Option Value} {x:Str} {st:Stmt} {ps:List Str} {f:Addr}
theorem Iw {oc:Value} {od an:Option Addr} {NA:Array (Option Value)} {kV doc pm LD ct:Value} (X:K.In h) (G:h.Ns mainGlobals mg) (a:PySem.W.nsIn K mainGlobals x=some (some (.ref f)))
  (l:K.lookup f=some ⟨oc,od,.func (PySem.W.fnOf x x (eY st) (dD st) (ak st) .none kV doc pm an LD ct),NA⟩) (c:PySem.W.codeIn K LD x=true) (k:PySem.W.keepIn K (.ref f)=true)
  (hb:jb x x st ps):Df K mg x st ps:=
 ⟨f,_,lM l c k,PySem.W.mg_of X G a,(lM l c k).binds hb⟩
theorem kd {i:Int} {t:Tok} (X:K.In h) (G:h.Ns mainGlobals mg) (a:PySem.W.nsIn K mainGlobals x=some (some (.int i t))):∃t,mg x=some (.int i t):=⟨t,PySem.W.mg_of X G a⟩
variable {C:Addr}
theorem BD (X:K.In h) (G:h.Ns mainGlobals mg) (a:PySem.W.nsIn K mainGlobals x=some (some (.ref C))) (e:PySem.W.excIn K C [.type "ValueError",.type "Exception",.type "BaseException",.type "object"] "ValueError.__new__" = true):Xc K mg x C:=⟨PySem.W.mg_of X G a,e⟩
theorem xM:jb "is_tile" "is_tile" iV ["house", "tile"]:=fun _ _ _ _ _ _ us hl=>by obtain ⟨a0,a1,rfl⟩:=oh hl; rfl
theorem uG:jb "all_tiles" "all_tiles" eO ["house"]:=fun _ _ _ _ _ _ us hl=>by obtain ⟨a0,rfl⟩:=qy hl; rfl
theorem qc:jb "is_in_order" "is_in_order" dA ["row"]:=fun _ _ _ _ _ _ us hl=>by obtain ⟨a0,rfl⟩:=qy hl; rfl
theorem xC:jb "is_hand" "is_hand" gz ["house", "hand", "jokers"]:=fun _ _ _ _ _ _ us hl=>by obtain ⟨a0,a1,a2,rfl⟩:=mU hl; rfl
theorem qV:jb "check_hand" "check_hand" eZ ["house", "hand", "jokers"]:=fun _ _ _ _ _ _ us hl=>by obtain ⟨a0,a1,a2,rfl⟩:=mU hl; rfl
theorem zE:jb "is_run" "is_run" kj ["house", "colour", "first", "size"]:=fun _ _ _ _ _ _ us hl=>by obtain ⟨a0,a1,a2,a3,rfl⟩:=Fj hl; rfl
theorem uX:jb "is_group" "is_group" eG ["house", "number", "colours"]:=fun _ _ _ _ _ _ us hl=>by obtain ⟨a0,a1,a2,rfl⟩:=mU hl; rfl
theorem wV:jb "is_meld" "is_meld" ja ["house", "meld"]:=fun _ _ _ _ _ _ us hl=>by obtain ⟨a0,a1,rfl⟩:=oh hl; rfl
theorem vn:jb "tiles_of" "tiles_of" eI ["house", "meld"]:=fun _ _ _ _ _ _ us hl=>by obtain ⟨a0,a1,rfl⟩:=oh hl; rfl
theorem mv:jb "colour_choices" "colour_choices" bS ["house"]:=fun _ _ _ _ _ _ us hl=>by obtain ⟨a0,rfl⟩:=qy hl; rfl
theorem qK:jb "all_groups" "all_groups" dX ["house"]:=fun _ _ _ _ _ _ us hl=>by obtain ⟨a0,rfl⟩:=qy hl; rfl
theorem wg:jb "all_runs" "all_runs" fG ["house"]:=fun _ _ _ _ _ _ us hl=>by obtain ⟨a0,rfl⟩:=qy hl; rfl
theorem Ba:jb "melds" "melds" mF ["house"]:=fun _ _ _ _ _ _ us hl=>by obtain ⟨a0,rfl⟩:=qy hl; rfl
theorem wY:jb "lay_out" "lay_out" i4 ["tiles", "jokers", "wanted"]:=fun _ _ _ _ _ _ us hl=>by obtain ⟨a0,a1,a2,rfl⟩:=mU hl; rfl
theorem mq:jb "playable_melds" "playable_melds" bT ["house", "hand", "jokers"]:=fun _ _ _ _ _ _ us hl=>by obtain ⟨a0,a1,a2,rfl⟩:=mU hl; rfl
theorem wa:jb "goes_out" "goes_out" gR ["house", "hand", "jokers"]:=fun _ _ _ _ _ _ us hl=>by obtain ⟨a0,a1,a2,rfl⟩:=mU hl; rfl
theorem wA:jb "helpers" "helpers" fP ["house", "hand", "jokers"]:=fun _ _ _ _ _ _ us hl=>by obtain ⟨a0,a1,a2,rfl⟩:=mU hl; rfl
theorem ot:jb "_law_cell_at" "_law_cell_at" dN ["script", "k"]:=fun _ _ _ _ _ _ us hl=>by obtain ⟨a0,a1,rfl⟩:=oh hl; rfl
theorem vJ:jb "_law_mix" "_law_mix" gY ["cell", "k", "many"]:=fun _ _ _ _ _ _ us hl=>by obtain ⟨a0,a1,a2,rfl⟩:=mU hl; rfl
theorem t9:jb "_law_told" "_law_told" fZ ["found", "due"]:=fun _ _ _ _ _ _ us hl=>by obtain ⟨a0,a1,rfl⟩:=oh hl; rfl
theorem mV:jb "_law_house_by" "_law_house_by" dv ["script"]:=fun _ _ _ _ _ _ us hl=>by obtain ⟨a0,rfl⟩:=qy hl; rfl
theorem n9:jb "_law_trimmed" "_law_trimmed" dS ["tiles", "limit"]:=fun _ _ _ _ _ _ us hl=>by obtain ⟨a0,a1,rfl⟩:=oh hl; rfl
theorem om:jb "_law_hand_by" "_law_hand_by" cE ["script", "start", "most", "colours", "limit"]:=fun _ _ _ _ _ _ us hl=>by obtain ⟨a0,a1,a2,a3,a4,rfl⟩:=Jz hl; rfl
theorem mP:jb "_law_jokers_by" "_law_jokers_by" cW ["script", "hand"]:=fun _ _ _ _ _ _ us hl=>by obtain ⟨a0,a1,rfl⟩:=oh hl; rfl
theorem qM:jb "_law_tiles" "_law_tiles" dm ["meld"]:=fun _ _ _ _ _ _ us hl=>by obtain ⟨a0,rfl⟩:=qy hl; rfl
theorem qJ:jb "_law_melds" "_law_melds" cN ["most", "colours"]:=fun _ _ _ _ _ _ us hl=>by obtain ⟨a0,a1,rfl⟩:=oh hl; rfl
theorem ou:jb "_law_wanting" "_law_wanting" c0 ["rest", "tiles"]:=fun _ _ _ _ _ _ us hl=>by obtain ⟨a0,a1,rfl⟩:=oh hl; rfl
theorem n6:jb "_law_without" "_law_without" dI ["rest", "tiles"]:=fun _ _ _ _ _ _ us hl=>by obtain ⟨a0,a1,rfl⟩:=oh hl; rfl
theorem uF:jb "_law_best" "_law_best" c9 ["some", "rest", "jokers"]:=fun _ _ _ _ _ _ us hl=>by obtain ⟨a0,a1,a2,rfl⟩:=mU hl; rfl
theorem oo:jb "_law_best_of" "_law_best_of" cU ["most", "colours", "hand", "jokers"]:=fun _ _ _ _ _ _ us hl=>by obtain ⟨a0,a1,a2,a3,rfl⟩:=Fj hl; rfl
theorem uP:jb "_law_out" "_law_out" fD ["most", "colours", "hand", "jokers"]:=fun _ _ _ _ _ _ us hl=>by obtain ⟨a0,a1,a2,a3,rfl⟩:=Fj hl; rfl
theorem qa:jb "_law_eleven" "_law_eleven" dz ["cell"]:=fun _ _ _ _ _ _ us hl=>by obtain ⟨a0,rfl⟩:=qy hl; rfl
theorem l4:jb "tiles_by_least" "tiles_by_least" cV ["playable"]:=fun _ _ _ _ _ _ us hl=>by obtain ⟨a0,rfl⟩:=qy hl; rfl
theorem DU:jb "ways" "Table.ways" jT ["self", "tiles", "jokers"]:=fun _ _ _ _ _ _ us hl=>by obtain ⟨a0,a1,a2,rfl⟩:=mU hl; rfl
theorem An:jb "covers" "Table.covers" iQ ["self", "tiles", "jokers"]:=fun _ _ _ _ _ _ us hl=>by obtain ⟨a0,a1,a2,rfl⟩:=mU hl; rfl
theorem G3:jb "__init__" "Table.__init__" zI ["self", "playable"]:=fun _ _ _ _ _ _ us hl=>by obtain ⟨a0,a1,rfl⟩:=oh hl; rfl
theorem Cv.none {P:Program} {w:World} {K:Lb} {mg:Str->Option Value} {base:Heap} {C:Addr} {m ql:Str} {st:Stmt} {ps:List Str} {k n:Nat} (D:Cv K C m ql st ps) (no:∀v u:V,([("by_least",v),("known",u)]:List (Str×V)).lookup m=none):HasM P w K mg base k C m n (fun _=>none):=by
 obtain ⟨f,fd,Fu,hm,hb⟩:=D;exact ⟨⟨f,fd,ps,⟨fun vs H Q E ⟨_,_,_,_,_,_,e,_⟩=>(nomatch e),fun A outer s H args us vs Q E _ _ _ _ ⟨_,_,_,_,_,_,e,_⟩=>(nomatch e)⟩,hm,hb⟩,no⟩
theorem j4 {P:Program} {w:World} {K:Lb} {mg:Str->Option Value} {base:Heap} {C CT K7 K8 K9 La:Addr} (T:Tx K mg C) (R:Rx K mg K7 K8 K9 La) (TT:Tt K CT) (Dw:Cv K CT "ways" "Table.ways" jT ["self", "tiles", "jokers"]) (Dc:Cv K CT "covers" "Table.covers" iQ ["self", "tiles", "jokers"]) (Ni:Has P w K mg base 1 "lay_out" 3 eP):∀n:Nat,HasM P w K mg base (n+11) CT "covers" 3 (kN P w CT n)
 |0=>(fY (k:=0) (m_ways:=fun _=>none) (m_covers:=fun _=>none) T R TT Dc (Dw.none (yr 0x2 0x2)) (Dc.none (yr 0x2 0x2))).imp (K2 _) fun _ _ h=>ET h
 |n+1=>by
  have h1:=(j4 T R TT Dw Dc Ni n).imp (k:=n+1+10) 0x1 fun _ _ h=>h;have hw:=(wB (k:=n) T R TT Dw Ni).imp (k:=n+1+10) 0x1 fun _ _ h=>h;exact (fY (k:=n+1) T R TT Dc hw h1).imp 0x1 fun _ _ h=>DZ h
variable {P:Program} {w:World} {base:Heap}
theorem Has.imp' {fm fm':List DV->M DV} (F:Has P w K mg base k x n fm) (h:∀xs x,fm' xs=some (.ok x)->fm xs=some (.ok x)):Has P w K mg base k x n fm':=by
 obtain ⟨fn,fd,ps,h1,h2⟩:=F;exact ⟨fn,fd,ps,h1.imp fun vs H Q E ⟨a,O,xs,x,b,c,d,e⟩=>⟨a,O,xs,x,b,c,h xs x d,e⟩,h2⟩
theorem Df.none' (D:Df K mg x st ps):Has P w K mg base k x n (fun _=>none):=D.has fun f fd Fu=>⟨fun vs H Q E ⟨_,_,_,_,_,_,e,_⟩=>(nomatch e),fun A outer s H args us vs Q E _ _ _ _ ⟨_,_,_,_,_,_,e,_⟩=>(nomatch e)⟩
theorem Cc {P:Program} {w:World} {K:Lb} {mg:Str->Option Value} {base:Heap} {C K7 K8 K9 La:Addr} (T:Tx K mg C) (R:Rx K mg K7 K8 K9 La) (D:Df K mg "_law_best" c9 ["some", "rest", "jokers"]) (ht:Has P w K mg base 1 "_law_tiles" 1 bq) (hw:Has P w K mg base 1 "_law_wanting" 2 bO) (ho:Has P w K mg base 1 "_law_without" 2 cC):∀n:Nat,n<=12->Has P w K mg base (n+11) "_law_best" 3 (jU n)
 |0,_=>Has.imp' (eM (k:=0) (m__law_best:=fun _=>none) T R D ht hw ho (Df.none' D)) fun _ _ h=>DT h
 |n+1,hn=>Has.imp' (eM (k:=n+1) T R D ht hw ho (Cc T R D ht hw ho n 0x1)) fun _ _ h=>EB 0x1 h
theorem Dq:jb "__init__" "House.__init__" rX ["self", "most", "colours"]:=fun _ _ _ _ _ _ us hl=>by obtain ⟨a0,a1,a2,rfl⟩:=mU hl; rfl
def yh (K:Lb):Sp:=fun vs H Q _=>∃(a:Addr) (ns:List Int),vs=[.ref a]/\eN K H a (ns.map V.int)/\ns.length<=63/\∀H',Q (.bl true) H'
theorem Gh {K7 K8 K9 La fI:Addr} {fdI:FuncData} {CT fT:Addr} {fdT:FuncData} (TT:Tt K CT) (hTM:Mk K CT fT) (FT:Fun K "__init__" "Table.__init__" zI fT fdT) (hCT:mg "Table" = some (.ref CT)) (DM0:Cv K CT "ways" "Table.ways" jT ["self", "tiles", "jokers"]) (DM1:Cv K CT "covers" "Table.covers" iQ ["self", "tiles", "jokers"]) (T:Tx K mg C) (R:Rx K mg K7 K8 K9 La) (OB:Xc K mg "BadHouse" K8) (hM:Mk K C fI) (FI:Fun K "__init__" "House.__init__" rX fI fdI) (hC:mg "House" = some (.ref C))
  (D0:Df K mg "is_tile" iV ["house", "tile"]) (D1:Df K mg "all_tiles" eO ["house"]) (D2:Df K mg "is_in_order" dA ["row"]) (D3:Df K mg "is_hand" gz ["house", "hand", "jokers"]) (D4:Df K mg "check_hand" eZ ["house", "hand", "jokers"]) (D5:Df K mg "is_run" kj ["house", "colour", "first", "size"]) (D6:Df K mg "is_group" eG ["house", "number", "colours"]) (D7:Df K mg "is_meld" ja ["house", "meld"]) (D8:Df K mg "tiles_of" eI ["house", "meld"]) (D9:Df K mg "colour_choices" bS ["house"]) (D10:Df K mg "all_groups" dX ["house"]) (D11:Df K mg "all_runs" fG ["house"]) (D12:Df K mg "melds" mF ["house"]) (D13:Df K mg "lay_out" i4 ["tiles", "jokers", "wanted"]) (D14:Df K mg "playable_melds" bT ["house", "hand", "jokers"]) (D15:Df K mg "goes_out" gR ["house", "hand", "jokers"]) (D16:Df K mg "helpers" fP ["house", "hand", "jokers"]) (D17:Df K mg "_law_cell_at" dN ["script", "k"]) (D18:Df K mg "_law_mix" gY ["cell", "k", "many"]) (D19:Df K mg "_law_told" fZ ["found", "due"]) (D20:Df K mg "_law_house_by" dv ["script"]) (D21:Df K mg "_law_trimmed" dS ["tiles", "limit"]) (D22:Df K mg "_law_hand_by" cE ["script", "start", "most", "colours", "limit"]) (D23:Df K mg "_law_jokers_by" cW ["script", "hand"]) (D24:Df K mg "_law_tiles" dm ["meld"]) (D25:Df K mg "_law_melds" cN ["most", "colours"]) (D26:Df K mg "_law_wanting" c0 ["rest", "tiles"]) (D27:Df K mg "_law_without" dI ["rest", "tiles"]) (D28:Df K mg "_law_best" c9 ["some", "rest", "jokers"]) (D29:Df K mg "_law_best_of" cU ["most", "colours", "hand", "jokers"]) (D30:Df K mg "_law_out" fD ["most", "colours", "hand", "jokers"]) (D31:Df K mg "_law_eleven" dz ["cell"]) (D33:Df K mg "tiles_by_least" cV ["playable"]) {fd:FuncData} (Fu:Fun K "law" "law" mH f fd):FnOk P w K mg base uH 63 f fd ["script"] (Ep 1 (rJ P w K C CT K7 K8 K9 (kN P w CT 12) (jU 12))):=by
 have L1:JX P w K mg base C K8:=⟨⟨fI,fdI,_,hM,Ec FI T OB,FI.binds Dq,hC⟩⟩;have h0:=eL (P:=P) (w:=w) (base:=base) T R D0;have h1:=jR (P:=P) (w:=w) (base:=base) T R D1;have h2:=ix (P:=P) (w:=w) (base:=base) T R D2;have h3:=m7 (P:=P) (w:=w) (base:=base) T R D3  h0 h2;have h4:=eV (P:=P) (w:=w) (base:=base) T R D4  h3;have h5:=qd (P:=P) (w:=w) (base:=base) T R D5  h0;have h6:=lz (P:=P) (w:=w) (base:=base) T R D6  h0;have h7:=nH (P:=P) (w:=w) (base:=base) T R D7  h5 h6;have h8:=lS (P:=P) (w:=w) (base:=base) T R D8  h7;have h9:=fE (P:=P) (w:=w) (base:=base) T R D9;have h10:=jh (P:=P) (w:=w) (base:=base) T R D10  h9;have h11:=lu (P:=P) (w:=w) (base:=base) T R D11;have NZ:=sX (P:=P) (w:=w) (base:=base) T R D12  h10 h11;have OQ:=iR (P:=P) (w:=w) (base:=base) T R D13;have h14:=cX (P:=P) (w:=w) (base:=base) T R D14  NZ h8 OQ;have hT0:=fJ (P:=P) (w:=w) (base:=base) (K7:=K7) (K8:=K8) (K9:=K9) (La:=La) T R D33;have hTab:∀fM UM,HsT P w K mg base "Table" CT 2 fM UM:=fun fM UM=>⟨⟨fT,fdT,_,hTM,Gg T R TT hT0 FT,FT.binds G3,hCT⟩⟩;have ME:=(j4 (P:=P) (w:=w) (base:=base) T R TT DM0 DM1 OQ 12).imp (k:=60) 0x3 fun _ _ h=>h;have h15:=ly (P:=P) (w:=w) (base:=base) T R D15 TT hTab ME h4 h14;have h16:=gy (P:=P) (w:=w) (base:=base) T R D16 TT hTab ME h4 h14 h1;have h17:=bu (P:=P) (w:=w) (base:=base) T R D17;have h18:=bM (P:=P) (w:=w) (base:=base) T R D18;have h19:=jV (P:=P) (w:=w) (base:=base) T R D19;have h20:=f7 (P:=P) (w:=w) (base:=base) T R D20  h17 h18;have h21:=hG (P:=P) (w:=w) (base:=base) T R D21;have h22:=gT (P:=P) (w:=w) (base:=base) T R D22  h17 h18 h21;have h23:=fH (P:=P) (w:=w) (base:=base) T R D23  h17;have h24:=eS (P:=P) (w:=w) (base:=base) T R D24;have h25:=jg (P:=P) (w:=w) (base:=base) T R D25;have h26:=dF (P:=P) (w:=w) (base:=base) T R D26;have h27:=g7 (P:=P) (w:=w) (base:=base) T R D27;have h28:=(Cc (P:=P) (w:=w) (base:=base) T R D28 h24 h26 h27 12 (K2 _)).mono (show 12+11<=30 by decide);have h29:=gW (P:=P) (w:=w) (base:=base) T R D29  h25 h24 h26 h28;have h30:=ji (P:=P) (w:=w) (base:=base) T R D30  h29;have h31:=iy (P:=P) (w:=w) (base:=base) T R D31  L1 h16;exact GB T R Fu L1 h20 h22 h23 h30 h15 h19 h17 h31 h16
theorem Hl {C CT K7 K8 K9 La:Addr} {fd:FuncData} (G4:∀ns:List Int,ns.length<=63->rJ P w K C CT K7 K8 K9 (kN P w CT 12) (jU 12) [.scr K ns]=rt (.d (.bool true))) (F:FnOk P w K mg base uH k f fd ps (Ep 1 (rJ P w K C CT K7 K8 K9 (kN P w CT 12) (jU 12)))):FnOk P w K mg base uH k f fd ps (yh K):=
 F.imp fun vs H Q E ⟨a,ns,ev,hS,hl,hq⟩=>by
  subst ev;refine ⟨rfl,[],[.scr K ns],_,fun a ha=>(nomatch ha),.cons ⟨a,rfl,hS.imp (fun z=>⟨nofun,z⟩) fun z=>z⟩ .nil,G4 ns hl,fun v H' _ rv=>?_⟩;cases rv;exact hq H'
abbrev Dk (K:Lb) (x:Str) (st:Stmt):Prop:=∃(f:Addr) (o:Value) (d:Option Addr) (v e p:Value) (n:Option Addr) (m t:Value) (s:Array (Option Value)),PySem.W.nsIn K mainGlobals x=some (some (.ref f))/\K.lookup f=some ⟨o,d,.func (PySem.W.fnOf x x (eY st) (dD st) (ak st) .none v e p n m t),s⟩/\PySem.W.codeIn K m x=true/\PySem.W.keepIn K (.ref f)=true
abbrev B2 (K:Lb) (C:Addr) (x y:Str) (st:Stmt):Prop:=∃(f:Addr) (o:Value) (d:Option Addr) (v e p:Value) (n:Option Addr) (m t:Value) (s:Array (Option Value)),PySem.W.findIn K (.ref C) x=some (some (.ref f))/\PySem.W.isFn K (.ref f)=true/\K.lookup f=some ⟨o,d,.func (PySem.W.fnOf x y (eY st) (dD st) (ak st) .none v e p n m t),s⟩/\PySem.W.codeIn K m y=true/\PySem.W.keepIn K (.ref f)=true
theorem Dk.mk {o v e p m t:Value} {d n:Option Addr} {s:Array (Option Value)} (a:PySem.W.nsIn K mainGlobals x=some (some (.ref f))) (l:K.lookup f=some ⟨o,d,.func (PySem.W.fnOf x x (eY st) (dD st) (ak st) .none v e p n m t),s⟩) (c:PySem.W.codeIn K m x=true) (k:PySem.W.keepIn K (.ref f)=true):Dk K x st:=⟨f,o,d,v,e,p,n,m,t,s,a,l,c,k⟩
theorem B2.mk {y:Str} {o v e p m t:Value} {d n:Option Addr} {s:Array (Option Value)} (a:PySem.W.findIn K (.ref C) x=some (some (.ref f))) (i:PySem.W.isFn K (.ref f)=true) (l:K.lookup f=some ⟨o,d,.func (PySem.W.fnOf x y (eY st) (dD st) (ak st) .none v e p n m t),s⟩) (c:PySem.W.codeIn K m y=true) (k:PySem.W.keepIn K (.ref f)=true):B2 K C x y st:=⟨f,o,d,v,e,p,n,m,t,s,a,i,l,c,k⟩
theorem Dk.df (X:K.In h) (G:h.Ns mainGlobals mg) (b:jb x x st ps) (D:Dk K x st):Df K mg x st ps:=by
 obtain ⟨f,_,_,_,_,_,_,_,_,_,a,l,c,k⟩:=D;exact Iw X G a l c k b
theorem B2.df {y:Str} (b:jb x y st ps) (D:B2 K C x y st):Cv K C x y st ps:=by
 obtain ⟨f,_,_,_,_,_,_,_,_,_,a,i,l,c,k⟩:=D;exact ⟨f,_,lM l c k,⟨a,i,k⟩,(lM l c k).binds b⟩
local macro_rules|`($k <<< $x <<< $v)=>`(PySem.W.nsIn $k mainGlobals $x=some $v)
set_option maxHeartbeats 3000000 in
theorem all_mk {l:PySem.W.OpenLaw} {fa K7 K8 K9 La CT:Addr} {Mf Mm Me Mq MQ MJ My MO:Tok} (X:K.In h) (G:h.Ns mainGlobals mg) (hfa:mg "law" = some (.ref fa))
  (A0:Dk K "is_tile" iV)
  (A1:Dk K "all_tiles" eO)
  (A2:Dk K "is_in_order" dA)
  (A3:Dk K "is_hand" gz)
  (A4:Dk K "check_hand" eZ)
  (A5:Dk K "is_run" kj)
  (A6:Dk K "is_group" eG)
  (A7:Dk K "is_meld" ja)
  (A8:Dk K "tiles_of" eI)
  (A9:Dk K "colour_choices" bS)
  (A10:Dk K "all_groups" dX)
  (A11:Dk K "all_runs" fG)
  (A12:Dk K "melds" mF)
  (A13:Dk K "lay_out" i4)
  (A14:Dk K "playable_melds" bT)
  (A15:Dk K "goes_out" gR)
  (A16:Dk K "helpers" fP)
  (A17:Dk K "_law_cell_at" dN)
  (A18:Dk K "_law_mix" gY)
  (A19:Dk K "_law_told" fZ)
  (A20:Dk K "_law_house_by" dv)
  (A21:Dk K "_law_trimmed" dS)
  (A22:Dk K "_law_hand_by" cE)
  (A23:Dk K "_law_jokers_by" cW)
  (A24:Dk K "_law_tiles" dm)
  (A25:Dk K "_law_melds" cN)
  (A26:Dk K "_law_wanting" c0)
  (A27:Dk K "_law_without" dI)
  (A28:Dk K "_law_best" c9)
  (A29:Dk K "_law_best_of" cU)
  (A30:Dk K "_law_out" fD)
  (A31:Dk K "_law_eleven" dz)
  (A32:Dk K "law" mH)
  (A33:Dk K "tiles_by_least" cV)
  (aCT:PySem.W.nsIn K mainGlobals "Table" = some (some (.ref CT)))
  (aM0:B2 K CT "ways" "Table.ways" jT)
  (aM1:B2 K CT "covers" "Table.covers" iQ)
  (aTI:B2 K CT "__init__" "Table.__init__" zI)
  (pgT:PySem.W.plainGet K CT Str.empty=true)
  (hdT:PySem.W.hasDictIn K CT=true)
  (poT:PySem.W.plainOver K CT=true)
  (saT:PySem.W.findIn K (.ref CT) "__setattr__" = some (some (.builtin "object.__setattr__")))
  (mkT_:PySem.W.makesIn K CT=true)
  (kcT:PySem.W.keepIn K (.ref CT)=true)
  (MV:PySem.W.findIn K (.ref CT) "by_least" = some none)
  (NJ:PySem.W.findIn K (.ref CT) "known" = some none)
  (aC:PySem.W.nsIn K mainGlobals "House" = some (some (.ref C)))
  (aI:B2 K C "__init__" "House.__init__" rX)
  (pg:PySem.W.plainGet K C Str.empty=true)
  (hd:PySem.W.hasDictIn K C=true)
  (po:PySem.W.plainOver K C=true)
  (sa:PySem.W.findIn K (.ref C) "__setattr__" = some (some (.builtin "object.__setattr__")))
  (mk:PySem.W.makesIn K C=true)
  (kc:PySem.W.keepIn K (.ref C)=true)
  (n_colours:PySem.W.findIn K (.ref C) "colours" = some none)
  (n_most:PySem.W.findIn K (.ref C) "most" = some none)
  (i_LEAST_NUMBERS:K <<< "LEAST_NUMBERS" <<< (some (.int 3 Mf)))
  (i_MOST_NUMBERS:K <<< "MOST_NUMBERS" <<< (some (.int 13 Mm)))
  (i_LEAST_COLOURS:K <<< "LEAST_COLOURS" <<< (some (.int 1 Me)))
  (i_MOST_COLOURS:K <<< "MOST_COLOURS" <<< (some (.int 4 Mq)))
  (i_MOST_TILES:K <<< "MOST_TILES" <<< (some (.int 12 MQ)))
  (i_MOST_ALIKE:K <<< "MOST_ALIKE" <<< (some (.int 2 MJ)))
  (i_MOST_JOKERS:K <<< "MOST_JOKERS" <<< (some (.int 2 My)))
  (i_LEAST_SIZE:K <<< "LEAST_SIZE" <<< (some (.int 3 MO)))
  (b_all:K <<< "all" <<< none)
  (b_bool:K <<< "bool" <<< none)
  (b_enumerate:K <<< "enumerate" <<< none)
  (b_int:K <<< "int" <<< none)
  (b_isinstance:K <<< "isinstance" <<< none)
  (b_len:K <<< "len" <<< none)
  (b_list:K <<< "list" <<< none)
  (b_min:K <<< "min" <<< none)
  (b_range:K <<< "range" <<< none)
  (b_sorted:K <<< "sorted" <<< none)
  (b_sum:K <<< "sum" <<< none)
  (b_tuple:K <<< "tuple" <<< none)
  (MW:K <<< "BadHand" <<< (some (.ref K7)))
  (MF:K <<< "BadHouse" <<< (some (.ref K8)))
  (MB:K <<< "BadLaying" <<< (some (.ref K9)))
  (NU:K <<< "MeldError" <<< (some (.ref La)))
  (MG:PySem.W.excIn K K8 [.type "ValueError",.type "Exception",.type "BaseException",.type "object"] "ValueError.__new__" = true)
  (MT:PySem.W.excIn K K7 [.type "ValueError",.type "Exception",.type "BaseException",.type "object"] "ValueError.__new__" = true)
  (MA:PySem.W.excIn K K9 [.type "ValueError",.type "Exception",.type "BaseException",.type "object"] "ValueError.__new__" = true) :
  ∃fd:FuncData,(∀(s:Shared) (v:Value),BindsTo s fd ⟨[v],[]⟩ [("script",v)])/\∀base:Heap,K.In base->base.Ns mainGlobals mg->FnOk l.prog w K mg base uH 63 fa fd ["script"] (yh K):=by
 obtain ⟨f,_,_,v,e,p,n,m,t,_,a,l',cc,kk⟩:=A32;have ee:=hfa.symm.trans (PySem.W.mg_of X G a);cases ee;obtain ⟨fI,_,_,_,_,_,_,_,_,_,aI,iI,lI,cI,kI⟩:=aI;have T:Tx K mg C:=⟨⟨pg,hd,po,sa⟩,n_colours,n_most,kd X G i_LEAST_NUMBERS,kd X G i_MOST_NUMBERS,kd X G i_LEAST_COLOURS,kd X G i_MOST_COLOURS,kd X G i_MOST_TILES,kd X G i_MOST_ALIKE,kd X G i_MOST_JOKERS,kd X G i_LEAST_SIZE,PySem.W.mg_none_of X G b_all,PySem.W.mg_none_of X G b_bool,PySem.W.mg_none_of X G b_enumerate,PySem.W.mg_none_of X G b_int,PySem.W.mg_none_of X G b_isinstance,PySem.W.mg_none_of X G b_len,PySem.W.mg_none_of X G b_list,PySem.W.mg_none_of X G b_min,PySem.W.mg_none_of X G b_range,PySem.W.mg_none_of X G b_sorted,PySem.W.mg_none_of X G b_sum,PySem.W.mg_none_of X G b_tuple⟩;have R:Rx K mg K7 K8 K9 La:=⟨BD X G MW MT,BD X G MB MA⟩;refine ⟨PySem.W.fnOf "law" "law" (eY mH) (dD mH) (ak mH) .none v e p n m t,fun s v=>.of_eq rfl,fun base kb nb=>?_⟩;refine Hl (P:=l.prog) (w:=w) (C:=C) (CT:=CT) (K7:=K7) (K8:=K8) (K9:=K9) (La:=La) (fun ns hl=>G4 l.prog w K C CT K7 K8 K9 ns hl) ?_;obtain ⟨fT,_,_,_,_,_,_,_,_,_,aTI,iTI,lTI,cTI,kTI⟩:=aTI;have TT:Tt K CT:=⟨⟨pgT,hdT,poT,saT⟩,MV,NJ⟩;exact Gh (P:=l.prog) (w:=w) (base:=base) TT ⟨mkT_,aTI,iTI,kcT⟩ (lM lTI cTI kTI) (PySem.W.mg_of X G aCT) (B2.df DU aM0) (B2.df An aM1) T R (BD X G MF MG) ⟨mk,aI,iI,kc⟩ (lM lI cI kI) (PySem.W.mg_of X G aC) (Dk.df X G xM A0) (Dk.df X G uG A1) (Dk.df X G qc A2) (Dk.df X G xC A3) (Dk.df X G qV A4) (Dk.df X G zE A5) (Dk.df X G uX A6) (Dk.df X G wV A7) (Dk.df X G vn A8) (Dk.df X G mv A9) (Dk.df X G qK A10) (Dk.df X G wg A11) (Dk.df X G Ba A12) (Dk.df X G wY A13) (Dk.df X G mq A14) (Dk.df X G wa A15) (Dk.df X G wA A16) (Dk.df X G ot A17) (Dk.df X G vJ A18) (Dk.df X G t9 A19) (Dk.df X G mV A20) (Dk.df X G n9 A21) (Dk.df X G om A22) (Dk.df X G mP A23) (Dk.df X G qM A24) (Dk.df X G qJ A25) (Dk.df X G ou A26) (Dk.df X G n6 A27) (Dk.df X G uF A28) (Dk.df X G oo A29) (Dk.df X G uP A30) (Dk.df X G qa A31) (Dk.df X G l4 A33) (lM l' cc kk)
theorem walk {l:PySem.W.OpenLaw} {q:Program} {loose:List Str} {XP:(Str->Option Value)->Heap->Prop} {YP:World->Heap->Prop} {d:DefRec} {K:Params->Lb} (hn:l.most=some 63) (hdf:d.params.defaults=[])
  (hY:∀(w:World) (h:Heap),YP w h->(K w.params).In h)
  (F:∀(w:World) (mg:Str->Option Value) (fa:Addr) (h:Heap),(K w.params).In h->h.Ns mainGlobals mg->mg d.name=some (.ref fa) ->
   ∃fd:FuncData,(∀(s:Shared) (u:Value),BindsTo s fd ⟨[u],[]⟩ [("script",u)])/\∀base:Heap,(K w.params).In base->base.Ns mainGlobals mg->FnOk l.prog w (K w.params) mg base uH 63 fa fd ["script"] (yh (K w.params))) :
  PySem.W.WalkO q loose XP YP l.row.toRowW d [] (fun f vs=>PySem.call f vs):=
 L2.walk_of (n:=63) (k:=63) (x:= "script") (CX:=fun _=>uH) (sp:=fun w=>yh (K w.params)) hn 0x3 hdf ⟨rfl,0x3,0x3⟩ hY F (fun _ _ a ns hl _ hS=>⟨a,ns,rfl,hS,hl,fun _=>rfl⟩) fun _ _ _ _ _ z=>z
theorem walkX {q:Program} {loose:List Str} {XP:(Str->Option Value)->Heap->Prop} {K:Params->Lb} {as:List Addr} {t:Nat} {r:PySem.W.RowW} {d:DefRec} {kwd:List (Str×Expr)} {run:Value->List Value->Sem Value} (e:∀P,as=(K P).map (·.1))
  (h:PySem.W.WalkO q loose XP (fun w h=>(K w.params).In h) r d kwd run):PySem.W.WalkX q loose XP (PySem.W.X.obsZ as) (PySem.W.X.valZ K n t) r d kwd run:=by
 intro w s₀ s₁ mg mb G y a o pm cd doc dV kV h1 h2 h3 h4 h5 h6 args vals Nq L MU hlay hrd hwl Ni;exact h w s₀ s₁ mg mb G (fun b ob hb=>L.keeps _ _ ((PySem.W.X.z_facts e y).2.1 b ob hb)) a o pm cd doc dV kV h1 h2 h3 h4 h5 h6 args vals Nq MU hlay hrd hwl Ni
end K6
namespace PySem.W.Fast
def tw10742945119172530346:=0
def tw10671660168390845242:=0
def tw12792465944067372693:=0
def tw3689435709478002786:=0
def tw13943409188308076678:=0
def tw4724511838676370055:=0
def tw16003908977515271736:=0
def tw8544195085586538510:=0
def tw1334510400398613993:=0
def tw14394304130631129904:=0
def tw6219580443280207233:=0
def tw7708567732067854484:=0
def tw4704599361139384756:=0
def tw14035585869030350893:=0
def tw18071468992961913256:=0
def tw16977378529970462472:=0
def tw36158281615733540:=0
def tw1590291880275291797:=0
def tw3653689782843100111:=0
def tw10717354712386273076:=0
def tw1068508317413987982:=0
def tw3593716549645347898:=0
def tw15626861815681822027:=0
def tw7229830960091797596:=0
def tw11571908527160624530:=0
def tw7862413999788419841:=0
def tw4946912411455004929:=0
def tw5651150386455254739:=0
def tw400998353587226200:=0
def tw1408959412852948133:=0
def tw4601344893770843301:=0
def tw10052887125051516117:=0
def tw1592589412873497166:=0
def tw10992184454784434376:=0
def tw11952724305926771523:=0
def tw2000772158138901488:=0
def tw14743918221071616909:=0
def tw13987291865890592786:=0
def tw13104443036003754439:=0
def tw9801718179007339182:=0
def tw2544089657278351743:=0
def tw7241170412284749960:=0
def tw3410117109580539335:=0
def tw2988821404684785192:=0
def tw1851080714091183765:=0
def tw3192684694826190127:=0
def tw8145855576416349352:=0
def tw11711503195352947847:=0
def tw1196205883298512860:=0
def tw14048748732324833148:=0
def tw5051932518372272886:=0
def tw5823079205537431845:=0
def tw7462653741297313571:=0
def tw8885948132104536850:=0
def tw15890803006800208971:=0
def tw16312727502499255732:=0
def tw16664180983418572397:=0
def tw2582197530478635232:=0
def tw15011848026195301421:=0
end PySem.W.Fast
open PySem PySem.W PyProof.Rows L2 L3 LW K6
set_option maxRecDepth 100000 in
set_option maxHeartbeats 0 in
theorem PySem.Challenge.cw_meldhouse_k06_going_out_holds : PySem.Challenge.rw_meldhouse_k06_going_out.Holds := by
 w_on; o_law; z_head; (case hw=>w_witness2)
 k_fill
 refine K6.walkX (fun _=>rfl) (K6.walk (l:=PySem.Challenge.rw_meldhouse_k06_going_out) rfl rfl (fun w h Y=>Y) ?F)
 case F=>
  intro w mg fa h KX G hmg;refine' K6.all_mk KX G hmg ?_ ?_ ?_ ?_ ?_ ?_ ?_ ?_ ?_ ?_ ?_ ?_ ?_ ?_ ?_ ?_ ?_ ?_ ?_ ?_ ?_ ?_ ?_ ?_ ?_ ?_ ?_ ?_ ?_ ?_ ?_ ?_ ?_ ?_ ?_ ?_ ?_ ?_ ?_ ?_ ?_ ?_ ?_ ?_ ?_ ?_ ?_ ?_ ?_ ?_ ?_ ?_ ?_ ?_ ?_ ?_ ?_ ?_ ?_ ?_ ?_ ?_ ?_ ?_ ?_ ?_ ?_ ?_ ?_ ?_ ?_ ?_ ?_ ?_ ?_ ?_ ?_ ?_ ?_ ?_ ?_ ?_ ?_
  any_goals first|(refine' Dk.mk ?a ?b ?c ?d; (case a=>k_is); (case b=>k_is); (case c=>k_is); (case d=>k_is))|(refine' B2.mk ?a ?b ?c ?d ?e; (case a=>k_is); (case b=>k_is); (case c=>k_is); (case d=>k_is); (case e=>k_is))|k_is|k_exc
