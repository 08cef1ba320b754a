import PyProof.Rows.All
import Wide.All
import OpenK.AllK
import Wide.FinOn
import Lean
import PyProof.EqAt
import PyProof.EqKinds
import PyProof.TupleCall
import PySem.Challenge.RW_meldhouse_k04_best_layings
abbrev Lj := @List.mem_cons
abbrev Lk := @List.mem_append
abbrev Ll := @List.mem_map
abbrev Lm := @List.mem_singleton
abbrev Ln := @List.mem_range
abbrev Lo := @List.mem_filter
abbrev Lp := @List.getElem?_eq_some_iff
abbrev Lq := @Option.isSome_iff_exists
abbrev Lr := @List.pairwise_cons
abbrev Ls := @List.pairwise_append
abbrev Lu := @Array.getElem?_eq_some_iff
abbrev Lv := @Nat.zero_le
abbrev Lw := @Nat.le_trans
abbrev Lx := @Nat.lt_of_lt_of_le
abbrev Ly := @decide_eq_false
abbrev Lz := @decide_eq_true
abbrev LA := @Nat.ne_of_lt
abbrev LC := @PySem.Heap.get?_push_size
abbrev LD := @Option.some.inj
abbrev LF := @Nat.le_of_eq
abbrev LG := @Int.le_trans
abbrev LH := @List.eq_nil_of_length_eq_zero
local macro_rules | `(0x1) => `(by lia)
local macro_rules | `(0x2) => `(by decide +kernel)
local macro_rules | `(0x3) => `(by decide)
local macro_rules | `(0x4) => `(by simp)
abbrev K3 := @List.mem_cons_of_mem
abbrev K5 := @List.mem_cons_self
abbrev K6 := @PySem.Heap.get?_push_of_some
abbrev K7 := @List.mem_append_right
abbrev K8 := @List.mem_append_left
abbrev K9 := @Nat.le_refl
abbrev La := @PySem.wpAny_bind
abbrev Lb := @PySem.wpAny_pure
abbrev Lc := @PySem.Heap.lt_size
abbrev Li := PySem.W.Frag
set_option Elab.async false
set_option bootstrap.genMatcherCode false
set_option linter.all false
set_option maxRecDepth 100000
namespace L2
open PySem PySem.Spec PyProof.Rows
abbrev t7:=Sum Int Str
noncomputable def FP:t7->Value->Bool
 |.inl k,v=>Value.isInt k v
 |.inr x,v=>Value.isStrOf x v
noncomputable def JJ (w:World):t7->Int
 |.inl k=>hashInt k
 |.inr x=>hashStr w x
theorem cz:∀{k:t7} {v:Value},FP k v=true->(∃i t,k=Sum.inl i/\v=Value.int i t)\/(∃x t,k=Sum.inr x/\v=Value.str x t)
 |.inl i,v,h=>by
  obtain ⟨t,e⟩:=Value.isInt_shape (k:=i) (v:=v) h;exact .inl ⟨i,t,rfl,e⟩
 |.inr x,v,h=>by
  obtain ⟨t,e⟩:=Value.isStrOf_shape (x:=x) (v:=v) h;exact .inr ⟨x,t,rfl,e⟩
theorem Gg (a b:Int):decide ((Sum.inl a:t7)=Sum.inl b)=(a==b):=by
 by_cases e:a=b
 ·subst e; simp
 ·have h:¬(Sum.inl a:t7)=Sum.inl b:=fun q=>e (Sum.inl.inj q);rw [Ly h];exact (beq_eq_false_iff_ne.mpr e).symm
theorem Hw (a b:Str):decide ((Sum.inr a:t7)=Sum.inr b)=decide (a=b):=by
 by_cases e:a=b
 ·subst e; simp
 ·have h:¬(Sum.inr a:t7)=Sum.inr b:=fun q=>e (Sum.inr.inj q);rw [Ly h,Ly e]
theorem Gr (a:Int) (b:Str):decide ((Sum.inl a:t7)=Sum.inr b)=false:=Ly (fun q=>nomatch q)
theorem GC (a:Str) (b:Int):decide ((Sum.inr a:t7)=Sum.inl b)=false:=Ly (fun q=>nomatch q)
noncomputable def tH (prog:Program) (w:World):PySem.KeyKind prog w t7 where
 is:=FP
 hash:=JJ w
 inj:=fun v a b ha hb=>by
  rcases cz ha with ⟨i,t,rfl,rfl⟩|⟨x,t,rfl,rfl⟩
  ·rcases cz hb with ⟨j,u,rfl,e⟩|⟨y,u,rfl,e⟩
   ·injection e with e1 _; rw [e1]
   ·exact nomatch e
  ·rcases cz hb with ⟨j,u,rfl,e⟩|⟨y,u,rfl,e⟩
   ·exact nomatch e
   ·injection e with e1 _; rw [e1]
 byValue:=fun k v h=>by
  rcases cz h with ⟨i,t,rfl,rfl⟩|⟨x,t,rfl,rfl⟩ <;> rfl
 pyHash:=fun hv h=>by
  rcases cz hv with ⟨i,t,rfl,rfl⟩|⟨x,t,rfl,rfl⟩
  ·exact wpAny_pyHash_int h
  ·exact wpAny_pyHash_str h
 eqBool:=fun hu hv h=>by
  rcases cz hu with ⟨i,t,rfl,rfl⟩|⟨x,t,rfl,rfl⟩
  ·rcases cz hv with ⟨j,u,rfl,rfl⟩|⟨y,u,rfl,rfl⟩
   ·rw [Gg] at h; exact wpAny_eqBool_int h
   ·rw [Gr] at h; exact SeqAt.EqAt.int_str i t y u _ _ _ _ h
  ·rcases cz hv with ⟨j,u,rfl,rfl⟩|⟨y,u,rfl,rfl⟩
   ·rw [GC] at h; exact SeqAt.EqAt.str_int x t j u _ _ _ _ h
   ·rw [Hw] at h; exact wpAny_eqBool_str h
 «strs»:=fun k x t v h=>by
  rcases cz h with ⟨i,u,rfl,e⟩|⟨y,u,rfl,e⟩
  ·exact nomatch e
  ·injection e with e1 _
   subst e1;cases v <;> rfl
inductive V where
 |non|bl (b:Bool)|int (i:Int)|str (x:Str)|byt (b:Array UInt8)|flt (b:UInt64)|ref (a:Addr)|ty (n:String)
 deriving DecidableEq
def bA:V->Value->Prop
 |.non,u=>u=Value.none
 |.bl b,u=>u=Value.bool b
 |.int i,u=>∃t,u=Value.int i t
 |.str x,u=>∃t,u=Value.str x t
 |.byt b,u=>∃t,u=Value.bytes b t
 |.flt b,u=>∃t,u=Value.float b t
 |.ref a,u=>u=Value.ref a
 |.ty n,u=>u=Value.type n
abbrev aS:List V->List Value->Prop:=Paired bA
theorem aS.length {xs:List V} {us:List Value} (r:aS xs us):xs.length=us.length:=Paired.length r
theorem aS.get:∀{xs:List V} {us:List Value} {i:Nat} {x:V},aS xs us->xs[i]?=some x->∃u,us[i]?=some u/\bA x u
 |_,_,_,_,.nil,e=>by simp at e
 |_,_,0,_,.cons r _,e=>by simp at e; subst e; exact ⟨_,rfl,r⟩
 |_,_,i+1,x,.cons _ t,e=>by
  obtain ⟨u,h1,h2⟩:=aS.get (i:=i) (x:=x) t (by simpa using e);exact ⟨u,by simpa using h1,h2⟩
theorem aS.set {x:V} {u:Value} (r:bA x u):∀{xs:List V} {us:List Value} (i:Nat),aS xs us->aS (xs.set i x) (us.set i u)
 |_,_,_,.nil=>.nil
 |_,_,0,.cons _ t=>.cons r t
 |_,_,i+1,.cons q t=>.cons q (aS.set r i t)
theorem aS.append:∀{xs ys:List V} {us ws:List Value},aS xs us->aS ys ws->aS (xs++ys) (us++ws)
 |_,_,_,_,.nil,s=>s
 |_,_,_,_,.cons r t,s=>.cons r (aS.append t s)
theorem aS.take:∀{xs:List V} {us:List Value} (n:Nat),aS xs us->aS (xs.take n) (us.take n)
 |_,_,0,_=>.nil
 |_,_,_+1,.nil=>.nil
 |_,_,n+1,.cons r t=>.cons r (aS.take n t)
theorem aS.drop:∀{xs:List V} {us:List Value} (n:Nat),aS xs us->aS (xs.drop n) (us.drop n)
 |_,_,0,r=>r
 |_,_,_+1,.nil=>.nil
 |_,_,n+1,.cons _ t=>aS.drop n t
def qx:Option V->Option Value->Prop
 |some v,some u=>bA v u
 |none,none=>True
 |_,_=>False
def KV {κ:Type}:List (κ×V)->List (κ×Value)->Prop:=Paired fun (p:κ×V) (q:κ×Value)=>p.1=q.1/\bA p.2 q.2
noncomputable def kV:t7->V
 |.inl i=>.int i
 |.inr x=>.str x
inductive HO where
 |lst (xs:List V)
 |tup (xs:List V)
 |dK (kvs:List (t7×V))|dT (kvs:List (List t7×V))
 |set (S:Int->Bool) (n:Nat)
 |ins (C dx:Addr) (fs:List (Str×V))
 |own (x:Addr)
 |xd (fs:List (Str×V))
 |met (f x:Addr)
 |rng (lo hi:Int)
 |frz (o:Obj) (u:HO)
 |tbl (ps:Array Value)
 |ext (φ:(Addr->List V->Prop)->Heap->Prop)
abbrev Hp:=Addr->Option HO
noncomputable def upd (H:Hp) (a:Addr) (o:HO):Hp:=fun b=>if b=a then some o else H b
variable {H:Hp} {a:Addr} {o:HO}
theorem aM:upd H a o a=some o:=by unfold upd; rw [if_pos rfl]
variable {b:Addr}
theorem aD (h:b≠a):upd H a o b=H b:=by unfold upd; rw [if_neg h]
theorem DJ {u:HO}:upd (upd H a o) a u=upd H a u:=by
 funext b; unfold upd; split <;> rfl
theorem FJ {u:HO} (h:H a=some o) (h':H b=some u) (d:o≠u):a≠b:=by
 intro e; subst e; rw [h] at h'; exact d (LD h')
theorem bK (h:H a=some o) (h':H b=none):a≠b:=by
 intro e; subst e; rw [h] at h'; cases h'
section
variable (P:Program) (w:World)
def bU (H:Hp) (h:Heap) (a:Addr):HO->Prop
 |.lst xs=>xs.length<=sizeLine/\∃(D':List Value) (n:Nat),aS xs D'/\h.get? a=some { cls:=.type "list",data:=.seq D'.toArray n }
 |.tup xs=>xs.length<=sizeLine/\∃D':List Value,aS xs D'/\IsTup h a D'.toArray
 |.dK kvs=>kvs.length<=sizeLine/\(a==sysModules)=false/\∃vs,KV kvs vs/\h.DictOf (tH P w) a vs
 |.dT kvs=>kvs.length<=sizeLine/\(a==sysModules)=false/\∃xs:List (List t7×Addr×Value),
   Paired (fun (p:List t7×V) (q:List t7×Addr×Value)=>p.1=q.1/\H q.2.1=some (.tup (p.1.map kV))/\bA p.2 q.2.2) kvs xs /\
   ∃o es ep,h.get? a=some o/\o.ExactDict/\o.data=.dict es ep/\es.toList=xs.map (entryOfKey (tupleKind (tH P w)))/\(xs.map (·.1)).Nodup
 |.set S n=>h.SetOf (intKind P w) a S n
 |.ins C dx fs=>H dx=some (.own a)/\fs.length<=1000/\dx≠a/\h.get? a=some (PySem.W.instObj C dx) /\
   ∃mA,h.Ns1 dx mA/\(∀f,qx (fs.lookup f) (mA f))/\PySem.Within mA (fs.map (·.1))
 |.own _=>∃o,h.get? a=some o
 |.xd fs=>∃mA,h.Ns1 a mA/\∀f,qx (fs.lookup f) (mA f)
 |.rng lo hi=>∃t u v,h.get? a=some { cls:=.type "range",data:=.fields #[.int lo t,.int hi u,.int 1 v] }
 |.frz o u=>h.get? a=some o/\bU H h a u
 |.tbl ps=>h.get? a=some { cls:=.none,data:=.fields ps }
 |.met f x=>h.get? a=some (PySem.W.methodObj (.ref f) (.ref x))
 |.ext φ=>φ (fun b xs=>H b=some (.tup xs)) h/\(∃o,h.get? a=some o)/\∀(T1 T2:Addr->List V->Prop) (h1 h2:Heap),φ T1 h1->(∀b xs,T1 b xs->T2 b xs)->(∀o,h1.get? a=some o->h2.get? a=some o)->φ T2 h2
def kr (H:Hp) (h:Heap):Prop:=∀a o,H a=some o->bU P w H h a o
end
section
variable {P:Program} {w:World} {H H':Hp} {h h':Heap} {a:Addr} {o:HO}
theorem bU.lt (x:bU P w H h a o):a<h.objs.size:=by
 cases o with
 |lst xs=>obtain ⟨_,_,_,_,e⟩:=x; exact Lc e
 |tup xs=>obtain ⟨_,_,_,p⟩:=x; exact p.lt
 |dK kvs=>obtain ⟨_,_,_,_,o,_,_,e,_⟩:=x; exact Lc e
 |dT kvs=>obtain ⟨_,_,_,_,o,_,_,e,_⟩:=x; exact Lc e
 |set S n=>obtain ⟨o,_,_,_,e,_⟩:=x; exact Lc e
 |ins C dx fs=>obtain ⟨_,_,_,e,_⟩:=x; exact Lc e
 |own y=>obtain ⟨_,e⟩:=x; exact Lc e
 |xd fs=>obtain ⟨_,⟨_,_,_,e,_⟩,_⟩:=x; exact Lc e
 |rng lo hi=>obtain ⟨_,_,_,e⟩:=x; exact Lc e
 |frz ob u=>obtain ⟨e,_⟩:=x; exact Lc e
 |tbl ps=>exact Lc (show h.get? a=some _ from x)
 |met f y=>exact Lc (show h.get? a=some _ from x)
 |ext φ=>obtain ⟨_,⟨_,e⟩,_⟩:=x; exact Lc e
theorem Paired.mapP {α β:Type} {F G:α->β->Prop}:∀{l₁:List α} {l₂:List β},Paired F l₁ l₂->(∀a b,F a b->G a b)->Paired G l₁ l₂
 |_,_,.nil,_=>.nil
 |_,_,.cons r t,f=>.cons (f _ _ r) (Paired.mapP t f)
theorem bU.stay (x:bU P w H h a o) (k:∀b u,(b=a\/H b=some (.own a))->h.get? b=some u->h'.get? b=some u)
  (ho:∀b,H b=some (.own a)->H' b=some (.own a)) (ht:∀b xs,H b=some (.tup xs)->H' b=some (.tup xs)):bU P w H' h' a o:=by
 induction o with
 |lst xs=>obtain ⟨z,D',n,r,e⟩:=x; exact ⟨z,D',n,r,k _ _ (.inl rfl) e⟩
 |tup xs=>obtain ⟨z,D',r,ob,e,c⟩:=x; exact ⟨z,D',r,ob,k _ _ (.inl rfl) e,c⟩
 |dK kvs=>obtain ⟨z,y,vs,r,ob,es,ep,e,c⟩:=x; exact ⟨z,y,vs,r,ob,es,ep,k _ _ (.inl rfl) e,c⟩
 |dT kvs=>
  obtain ⟨z,y,xs,r,ob,es,ep,e,c⟩:=x;exact ⟨z,y,xs,Paired.mapP r fun p q z=>⟨z.1,ht _ _ z.2.1,z.2.2⟩,ob,es,ep,k _ _ (.inl rfl) e,c⟩
 |set S n=>obtain ⟨ob,es,ep,t,e,c⟩:=x; exact ⟨ob,es,ep,t,k _ _ (.inl rfl) e,c⟩
 |ins C dx fs=>
  obtain ⟨d,z,ne,e,mA,⟨od,es,ep,e2,c⟩,r⟩:=x;exact ⟨ho _ d,z,ne,k _ _ (.inl rfl) e,mA,⟨od,es,ep,k _ _ (.inr d) e2,c⟩,r⟩
 |own y=>obtain ⟨ob,e⟩:=x; exact ⟨ob,k _ _ (.inl rfl) e⟩
 |xd fs=>obtain ⟨mA,⟨od,es,ep,e,c⟩,r⟩:=x; exact ⟨mA,⟨od,es,ep,k _ _ (.inl rfl) e,c⟩,r⟩
 |rng lo hi=>obtain ⟨t,u,v,e⟩:=x; exact ⟨t,u,v,k _ _ (.inl rfl) e⟩
 |frz ob u ih=>obtain ⟨e,q⟩:=x; exact ⟨k _ _ (.inl rfl) e,ih q⟩
 |tbl ps=>
  have e:h.get? a=some { cls:=.none,data:=.fields ps }:=x;show h'.get? a=some { cls:=.none,data:=.fields ps };exact k a _ (.inl rfl) e
 |met f y=>
  have e:h.get? a=some (PySem.W.methodObj (.ref f) (.ref y)):=x;show h'.get? a=some (PySem.W.methodObj (.ref f) (.ref y));exact k a _ (.inl rfl) e
 |ext φ=>obtain ⟨p,⟨o,e⟩,st⟩:=x; exact ⟨st _ _ _ _ p (fun b xs q=>ht b xs q) fun o q=>k _ _ (.inl rfl) q,⟨o,k _ _ (.inl rfl) e⟩,st⟩
theorem kr.lt (x:kr P w H h) (e:H a=some o):a<h.objs.size:=(x a o e).lt
theorem kr.fresh (x:kr P w H h) (e:h.objs.size<=a):H a=none:=by
 cases q:H a with
 |none=>rfl
 |some u=>exact absurd (Lx (x.lt q) e) (Nat.lt_irrefl _)
theorem kr.kept (x:kr P w H h) (k:∀b u,h.get? b=some u->h'.get? b=some u):kr P w H h':=fun a o e=>
 (x a o e).stay (fun b u _ q=>k b u q) (fun _ q=>q) fun _ _ q=>q
theorem kr.laid (x:kr P w H h) (k:∀b u,h.get? b=some u->h'.get? b=some u) (hp:h.objs.size<=a) (new:bU P w (upd H a o) h' a o):kr P w (upd H a o) h':=fun b u e=>by
 have hn:=x.fresh hp;by_cases hb:b=a
 ·subst hb; rw [aM] at e; cases e; exact new
 ·rw [aD hb] at e;exact (x b u e).stay (fun c v _ q=>k c v q) (fun c q=>by rw [aD (bK q hn)]; exact q) fun c xs q=>by rw [aD (bK q hn)]; exact q
end
def Rd (H:Hp) (a:Addr) (u:HO):Prop:=H a=some u\/∃o,H a=some (.frz o u)
variable {P:Program} {w:World} {h:Heap}
theorem Rd.ok {u:HO} (r:Rd H a u) (x:kr P w H h):bU P w H h a u:=by
 rcases r with r|⟨o,r⟩
 ·exact x a u r
 ·obtain ⟨_,q⟩:=x a _ r;exact q
def JF:Option HO->Prop
 |some (.lst _)=>True
 |some (.dK _)=>True
 |some (.dT _)=>True
 |some (.set _ _)=>True
 |some (.ins _ _ _)=>True
 |some (.ext _)=>True
 |_=>False
section
variable {P:Program} {w:World} {H:Hp} {h h':Heap} {x e:Addr} {o':HO}
theorem kr.write (ok:kr P w H h) (mu:JF (H x)) (he:e=x\/H e=some (.own x)) (k:∀b u,b≠e->h.get? b=some u->h'.get? b=some u) (heo:∃u,h'.get? e=some u)
  (new:bU P w (upd H x o') h' x o'):kr P w (upd H x o') h':=fun b u q=>by
 have nown:∀c y,H c=some (.own y)->c≠x:=fun c y r z=>by subst z; rw [r] at mu; exact mu
 have ntup:∀c xs,H c=some (.tup xs)->c≠x:=fun c xs r z=>by subst z; rw [r] at mu; exact mu
 by_cases hb:b=x
 ·subst hb; rw [aM] at q; cases q; exact new
 ·rw [aD hb] at q;by_cases N0:b=e
  ·have q':H b=some (.own x):=by
    rcases he with z|z
    ·exact absurd (N0.trans z) hb
    ·rw [N0]; exact z
   rw [q] at q'; cases q'
   obtain ⟨v,hv⟩:=heo;exact ⟨v,by rw [N0]; exact hv⟩
  ·refine (ok b u q).stay (fun c v hc r=>k c v ?_ r) (fun c r=>by rw [aD (nown c b r)]; exact r) fun c xs r=>by rw [aD (ntup c xs r)]; exact r
   rcases hc with rfl|hc
   ·exact N0
   ·rintro rfl;rcases he with z|z
    ·exact nown c b hc z
    ·rw [hc] at z; cases z; exact hb rfl
end
structure Un (fs ex:List Addr) (H H':Hp) (h h':Heap):Prop where
 keep:∀b o,h.get? b=some o->H b=none->b∉fs->b∉ex->h'.get? b=some o
 slot:∀b o,h.get? b=some o->H b=none->b∈fs->b∉ex->∃sl,h'.get? b=some { o with slots:=sl }
 free:∀b o,h.get? b=some o->H b=none->b∉ex->H' b=none
 there:∀b o,h.get? b=some o->b∉ex->∃o',h'.get? b=some o'
 tups:∀b xs,H b=some (.tup xs)->H' b=some (.tup xs)
 frzs:∀b o u,H b=some (.frz o u)->H' b=some (.frz o u)
 tbls:∀b ps,H b=some (.tbl ps)->∃more,H' b=some (.tbl (ps++more))
section
variable {fs N4 ex N2:List Addr} {H H1 H2:Hp} {h h1 h2 h':Heap} {a x e:Addr} {o:HO}
theorem Un.any (u:Un fs ex H H1 h h1) {ob:Obj} (q:h.get? b=some ob) (n:H b=none) (hx:b∉ex):∃sl,h1.get? b=some { ob with slots:=sl }:=by
 by_cases hb:b∈fs
 ·exact u.slot b ob q n hb hx
 ·exact ⟨ob.slots,u.keep b ob q n hb hx⟩
theorem Un.kept (k:∀b u,h.get? b=some u->h'.get? b=some u):Un fs ex H H h h':=
 ⟨fun b ob q _ _ _=>k b ob q,fun b ob q _ _ _=>⟨ob.slots,k b ob q⟩,fun _ _ _ n _=>n,fun b ob q _=>⟨ob,k b ob q⟩,fun _ _ q=>q,fun _ _ _ q=>q,fun _ ps q=>⟨#[],by rw [q]; simp⟩⟩
theorem Un.refl:Un fs ex H H h h:=Un.kept fun _ _ q=>q
theorem Un.laid (k:∀b u,h.get? b=some u->h'.get? b=some u) (hp:h.objs.size<=a) (hn:H a=none):Un fs ex H (upd H a o) h h' where
 keep:=fun b u q _ _ _=>k b u q
 slot:=fun b u q _ _ _=>⟨u.slots,k b u q⟩
 free:=fun b u q n _=>by rw [aD (LA (Lx (Lc q) hp))]; exact n
 there:=fun b u q _=>⟨u,k b u q⟩
 tups:=fun b xs q=>by rw [aD (bK q hn)]; exact q
 frzs:=fun b u xs q=>by rw [aD (bK q hn)]; exact q
 tbls:=fun b ps q=>⟨#[],by rw [aD (bK q hn),q]; simp⟩
theorem Un.write (mu:JF (H x)) (he:e=x\/H e=some (.own x)) (k:∀b u,b≠e->h.get? b=some u->h'.get? b=some u) (heo:∃u,h'.get? e=some u):Un fs ex H (upd H x o) h h':=by
 have hx:∀b,H b=none->b≠x:=fun b n z=>by subst z; rw [n] at mu; exact mu
 have hb:∀b,H b=none->b≠e:=fun b n z=>by
  subst z;rcases he with r|r
  ·exact hx b n r
  ·rw [n] at r; cases r
 have hm:∀b u,H b=some u->¬JF (some u)->b≠x:=fun b u q nm z=>by subst z; rw [q] at mu; exact nm mu
 refine ⟨fun b u q n _ _=>k b u (hb b n) q,fun b u q n _ _=>⟨u.slots,k b u (hb b n) q⟩,fun b u q n _=>by rw [aD (hx b n)]; exact n,fun b u q _=>?_,
  fun b xs q=>by rw [aD (hm b _ q fun z=>z)]; exact q,fun b u xs q=>by rw [aD (hm b _ q fun z=>z)]; exact q,fun b ps q=>⟨#[],by rw [aD (hm b _ q fun z=>z),q]; simp⟩⟩
 by_cases N0:b=e
 ·subst N0; exact heo
 ·exact ⟨u,k b u N0 q⟩
end
noncomputable def trk (h:Heap) (H:Hp):List Addr:=(List.range h.objs.size).filter fun a=>(H a).isSome
noncomputable def tZ (h:Heap) (H:Hp):Heap:=PySem.W.hideAll h (trk h H)
theorem yK (h:Heap) (H:Hp):(tZ h H).objs.size=h.objs.size:=PySem.W.hideAll_size _ _
theorem Cm {o:Obj} (e:h.get? b=some o) (n:H b=none):(tZ h H).get? b=some o:=
 PySem.W.hideAll_get _ e fun hm=>by
  have q:(H b).isSome=true:=(Lo.mp hm).2;rw [n] at q; simp at q
theorem C5 {o:Obj} (e:(tZ h H).get? b=some o):h.get? b=some o/\H b=none:=by
 have e':h.get? b=some o:=PySem.W.of_hideAll (trk h H) e;refine ⟨e',?_⟩;cases q:H b with
 |none=>rfl
 |some x=>
  have hm:b∈trk h H:=Lo.mpr ⟨Ln.mpr (Lc e'),by simp [q]⟩;have z:(tZ h H).get? b=none:=PySem.W.hideAll_none (trk h H) hm;rw [z] at e; cases e
noncomputable def DZ (g h:Heap) (L:Addr):List (Addr×Obj):=(List.range h.objs.size).filterMap fun a=>if a=L\/(g.get? a).isSome=true then none else (h.get? a).map fun o=>(a,o)
noncomputable def cy (g h:Heap) (L d:Addr):List (Addr×Obj):=(DZ g h L).filter fun p=>decide (p.1≠d)
structure Mod (K:Li) (mg:Str->Option Value) (base:Heap):Prop where
 kin:K.In base
 glob:base.Ns mainGlobals mg
 blt:∃mb,base.Ns builtinsNs mb/\∀x:Str,x ≠ "__name__" -> mb x=bootBuiltins x
 nolimit:base.NoLimit
structure Cx where
 prog:Program
 w:World
 K:Li
 mg:Str->Option Value
 base:Heap
 A:Around
 N:List Str
 s₀:Shared
 H₀:Hp
 env:Env
 outer:List Env
 stack:List Env
 ex:List Addr
 fn:Str->Bool
 calm:Bool
 pn:List (Addr×Obj)
 xe:Value->Shared->Prop
noncomputable def ix (l:List Env):List Addr:=l.filterMap (·.frame)
noncomputable abbrev Cx.fs (X:Cx):List Addr:=ix X.outer
def JA (sc:Scope) (x:Str):Prop:=sc.names.lookup x=some .local\/sc.names.lookup x=some .cell\/sc.names.lookup x=some .free
def HU (sc:Scope) (x:Str):Prop:=sc.names.lookup x=some .local\/sc.names.lookup x=some .cell
def JN (env:Env) (h:Heap) (m:Str->Option Value) (x:Str) (u:Value):Prop:=
 (env.kindOf x=some .local/\m x=some u)\/((env.kindOf x=some .cell\/env.kindOf x=some .free)/\∃c,env.cells.lookup x=some c/\h.IsCell c (some u))
structure Cx.Ok (X:Cx):Prop where
 mod:Mod X.K X.mg X.base
 kind:X.env.scope.kind=.function
 glob:X.env.globals=mainGlobals
 blt:X.env.builtins=builtinsNs
 above:X.s₀.heap.objs.size<=X.env.locals
 inj:∀x y c,X.env.cells.lookup x=some c->X.env.cells.lookup y=some c->x=y
 has:∀x,(X.env.kindOf x=some .cell\/X.env.kindOf x=some .free)->∃c,X.env.cells.lookup x=some c
 cab:∀x c,X.fn x=true->X.env.cells.lookup x=some c->X.s₀.heap.objs.size<=c
 hd:X.calm=true->X.A.handled=none
 frames:X.A.frames=some X.stack
 stk:X.stack=X.outer\/(X.stack=X.env::X.outer/\X.env.frame=some X.env.locals)
 exf:∀b∈X.ex,b≠X.env.locals/\∀x c,X.env.cells.lookup x=some c->c≠b
 bs:∀b o,X.base.get? b=some o->X.s₀.heap.get? b=some o/\X.H₀ b=none
 bsz:X.base.objs.size<=X.s₀.heap.objs.size
 noex:∀b o,X.base.get? b=some o->b∉X.ex
 exfs:∀b∈X.ex,b∉X.fs
 funs:X.s₀.heap.FunFrames X.base X.outer
 frf:∀b∈X.fs,X.H₀ b=none
structure Inv (X:Cx) (pins:List (Addr×Obj)) (σ:List (Option V)) (H:Hp) (s:Shared):Prop where
 ok:X.Ok
 os:s.os=X.s₀.os
 bare:AllBare s.gens
 base:Un X.fs X.ex X.H₀ H X.s₀.heap s.heap
 loc:∃m,s.heap.Ns X.env.locals m/\∀(i:Nat) (x:Str) (v:V),X.N[i]?=some x->σ[i]?=some (some v)->JA X.env.scope x->∃u,bA v u/\JN X.env s.heap m x u
 cell:∀x c,X.env.cells.lookup x=some c->∃v,s.heap.IsCell c v
 free:H X.env.locals=none
 freeC:∀x c,X.env.cells.lookup x=some c->H c=none
 pin:∀p∈X.pn++pins,s.heap.get? p.1=some p.2/\H p.1=none/\p.1≠X.env.locals/\p.1∉X.fs/\∀v,p.2.data≠.cell v
 hok:kr X.prog X.w H s.heap
 len:σ.length=X.N.length
section
variable {X:Cx} {pins:List (Addr×Obj)} {σ:List (Option V)} {H H':Hp} {s:Shared} {h':Heap}
theorem Cx.Ok.nofr (ok:X.Ok) {o:Obj} (e:X.base.get? b=some o):b∉X.fs:=fun hb=>by
 have:=(ok.funs.mem hb).1;rw [e] at this; cases this
theorem Inv.bs (I:Inv X pins σ H s):∀b o,X.base.get? b=some o->s.heap.get? b=some o/\H b=none:=fun b o e=>
 ⟨I.base.keep b o (I.ok.bs b o e).1 (I.ok.bs b o e).2 (I.ok.nofr e) (I.ok.noex b o e),I.base.free b o (I.ok.bs b o e).1 (I.ok.bs b o e).2 (I.ok.noex b o e)⟩
theorem Inv.bk (I:Inv X pins σ H s):∀b o,X.base.get? b=some o->s.heap.get? b=some o:=fun b o e=>(I.bs b o e).1
theorem Inv.mod (I:Inv X pins σ H s):Mod X.K X.mg X.base:=I.ok.mod
theorem Inv.kIn (I:Inv X pins σ H s):X.K.In s.heap:=I.ok.mod.kin.keeps I.bk
theorem Inv.nolimit (I:Inv X pins σ H s):s.heap.NoLimit:=I.ok.mod.nolimit.keeps I.bk
theorem Inv.fr (I:Inv X pins σ H s):∃m,Fr X.base X.env.locals s.heap m:=
 let ⟨m,hn,_⟩:=I.loc
 ⟨m,hn,I.bk,Lw I.ok.bsz I.ok.above⟩
theorem Inv.lt (I:Inv X pins σ H s):X.env.locals<s.heap.objs.size:=let ⟨_,hn,_⟩:=I.loc; hn.lt
theorem Inv.sz (I:Inv X pins σ H s):X.s₀.heap.objs.size<=s.heap.objs.size:=Lw I.ok.above (Nat.le_of_lt I.lt)
theorem Inv.nofs (I:Inv X pins σ H s) (h:s.heap.objs.size<=a):a∉X.fs:=fun hb=>by
 obtain ⟨_,o,ho,_⟩:=I.ok.funs.mem hb;exact absurd (Lx (Lc ho) (Lw I.sz h)) (Nat.lt_irrefl _)
theorem Inv.cne (I:Inv X pins σ H s):∀x c,X.env.cells.lookup x=some c->c≠X.env.locals:=fun x c e z=>by
 obtain ⟨v,o,ho,hd⟩:=I.cell x c e;obtain ⟨m,⟨o',es,ep,NN,Nf,_⟩,_⟩:=I.loc;rw [z,NN] at ho; cases ho; rw [Nf] at hd; cases hd
theorem Inv.funs (I:Inv X pins σ H s):s.heap.FunFrames X.base X.outer:=by
 have all:∀(l:List Env),(∀b∈ix l,b∈X.fs)->X.s₀.heap.FunFrames X.base l->s.heap.FunFrames X.base l:=by
  intro l
  induction l with
  |nil=>intro _ _; trivial
  |cons env r ih=>
   intro hs hl;obtain ⟨hk,⟨L,o,hf,hn,ho,hd⟩,hr⟩:=hl;have hL:L∈X.fs:=hs L (by unfold ix; rw [List.filterMap_cons,hf]; exact K5);obtain ⟨sl,e⟩:=I.base.slot L o ho (I.ok.frf L hL) hL fun z=>I.ok.exfs L z hL;exact ⟨hk,⟨L,_,hf,hn,e,hd⟩,ih (fun b hb=>hs b (by unfold ix; rw [List.filterMap_cons,hf]; exact K3 _ hb)) hr⟩
 exact all X.outer (fun _ hb=>hb) I.ok.funs
theorem Inv.stack (I:Inv X pins σ H s):s.heap.FunFrames X.base X.stack:=by
 rcases I.ok.stk with e|⟨e,hf⟩
 ·rw [e]; exact I.funs
 ·rw [e];obtain ⟨m,hn,_⟩:=I.loc;refine .cons (by rw [I.ok.kind]; decide) hf hn ?_ I.funs;exact Heap.get?_none_of_le (Lw I.ok.bsz I.ok.above)
theorem Inv.stkSub (I:Inv X pins σ H s):∀b∈ix X.stack,b∈X.env.locals::X.fs:=fun b hb=>by
 rcases I.ok.stk with e|⟨e,hf⟩
 ·rw [e] at hb; exact K3 _ hb
 ·rw [e] at hb;unfold ix at hb;rw [List.filterMap_cons,hf] at hb;exact hb
theorem Inv.stkFree (I:Inv X pins σ H s):∀b∈ix X.stack,H b=none:=fun b hb=>by
 rcases Lj.mp (I.stkSub b hb) with e|hb
 ·rw [e]; exact I.free
 ·obtain ⟨_,o,ho,_⟩:=I.ok.funs.mem hb;exact I.base.free b o ho (I.ok.frf b hb) fun z=>I.ok.exfs b z hb
variable {ch:List Addr}
theorem Inv.step {g':Array GenState} {t':Nat} {d':Drawn} (I:Inv X pins σ H s)
  (M7:∀b∈ch,(b∈X.ex\/X.s₀.heap.objs.size<=b)/\b≠X.env.locals/\(∀x c,X.env.cells.lookup x=some c->c≠b)/\∀p∈X.pn++pins,p.1≠b)
  (keep:∀b o,b≠X.env.locals->b∉X.fs->b∉ch->s.heap.get? b=some o->H b=none->h'.get? b=some o)
  (slot:∀b o,b≠X.env.locals->b∈X.fs->b∉ch->s.heap.get? b=some o->H b=none->∃sl,h'.get? b=some { o with slots:=sl }) (free:∀b o,b∉ch->s.heap.get? b=some o->H b=none->H' b=none)
  (there:∀b o,b∉ch->s.heap.get? b=some o->∃o',h'.get? b=some o')
  (tups:∀b xs,H b=some (.tup xs)->H' b=some (.tup xs)) (frzs:∀b o u,H b=some (.frz o u)->H' b=some (.frz o u)) (tbls:∀b ps,H b=some (.tbl ps)->∃more,H' b=some (.tbl (ps++more)))
  (ns:∀m,s.heap.Ns X.env.locals m->h'.Ns X.env.locals m) (hok:kr X.prog X.w H' h') (hg:AllBare g') :
  Inv X pins σ H' { s with heap:=h',gens:=g',drawn:=d',toks:=t' }:=by
 have neL:∀b o,X.s₀.heap.get? b=some o->b≠X.env.locals:=fun b o e=>LA (Lx (Lc e) I.ok.above);have NF:∀b o,X.s₀.heap.get? b=some o->b∉X.ex->b∉ch:=fun b o e hx hb=>by
  rcases (M7 b hb).1 with z|z
  ·exact hx z
  ·exact absurd (Lx (Lc e) z) (Nat.lt_irrefl _)
 have cellK:∀x c,X.env.cells.lookup x=some c->∀v,s.heap.IsCell c v->h'.IsCell c v:=fun x c e v ⟨o,ho,hd⟩=>by
  have nch:c∉ch:=fun z=>(M7 c z).2.2.1 x c e rfl;by_cases hc:c∈X.fs
  ·obtain ⟨sl,q⟩:=slot c o (I.cne x c e) hc nch ho (I.freeC x c e);exact ⟨_,q,hd⟩
  ·exact ⟨o,keep c o (I.cne x c e) hc nch ho (I.freeC x c e),hd⟩
 refine ⟨I.ok,I.os,hg,⟨fun b o e n hb hx=>?_,fun b o e n hb hx=>?_,fun b o e n hx=>?_,fun b o e hx=>?_,fun b xs e=>tups b xs (I.base.tups b xs e),fun b o xs e=>frzs b o xs (I.base.frzs b o xs e),fun b ps e=>?_⟩,?_,fun x c e=>?_,?_,fun x c e=>?_,fun p hp=>?_,hok,I.len⟩
 ·exact keep b o (neL b o e) hb (NF b o e hx) (I.base.keep b o e n hb hx) (I.base.free b o e n hx)
 ·obtain ⟨sl,e1⟩:=I.base.slot b o e n hb hx;obtain ⟨sl',e2⟩:=slot b _ (neL b o e) hb (NF b o e hx) e1 (I.base.free b o e n hx);exact ⟨sl',e2⟩
 ·obtain ⟨o',e1⟩:=I.base.there b o e hx;exact free b o' (NF b o e hx) e1 (I.base.free b o e n hx)
 ·obtain ⟨o',e1⟩:=I.base.there b o e hx;exact there b o' (NF b o e hx) e1
 ·obtain ⟨m1,e1⟩:=I.base.tbls b ps e;obtain ⟨m2,e2⟩:=tbls b _ e1;exact ⟨m1++m2,by rw [e2,Array.append_assoc]⟩
 ·obtain ⟨m,hn,hl⟩:=I.loc;refine ⟨m,ns m hn,fun i x v e1 e2 e3=>?_⟩;obtain ⟨u,r,l⟩:=hl i x v e1 e2 e3;refine ⟨u,r,?_⟩;rcases l with l|⟨k,c,e,z⟩
  ·exact .inl l
  ·exact .inr ⟨k,c,e,cellK x c e _ z⟩
 ·obtain ⟨v,z⟩:=I.cell x c e;exact ⟨v,cellK x c e v z⟩
 ·obtain ⟨m,⟨o,_,_,ho,_⟩,_⟩:=I.loc;exact free _ o (fun z=>(M7 _ z).2.1 rfl) ho I.free
 ·obtain ⟨v,o,ho,hd⟩:=I.cell x c e;exact free c o (fun z=>(M7 c z).2.2.1 x c e rfl) ho (I.freeC x c e)
 ·obtain ⟨e,n,ne,nf,d⟩:=I.pin p hp;have nch:p.1∉ch:=fun z=>(M7 p.1 z).2.2.2 p hp rfl;exact ⟨keep p.1 p.2 ne nf nch e n,free p.1 p.2 nch e n,ne,nf,d⟩
theorem Inv.un {t':Nat} (I:Inv X pins σ H s) (u:Un X.fs [] H H' s.heap h') (hok:kr X.prog X.w H' h'):Inv X pins σ H' { s with heap:=h',toks:=t' }:=by
 obtain ⟨m,⟨o,es,ep,ho,r⟩,_⟩:=id I.loc;obtain ⟨sl,hL⟩:=u.any ho I.free 0x4;exact I.step (g':=s.gens) (d':=s.drawn) (ch:=[]) (fun _ z=>nomatch z) (fun b o _ hb _ e n=>u.keep b o e n hb 0x4) (fun b o _ hb _ e n=>u.slot b o e n hb 0x4) (fun b o _ e n=>u.free b o e n 0x4) (fun b o _ e=>u.there b o e 0x4) u.tups u.frzs u.tbls (fun m' hm=>by
  obtain ⟨o',es',ep',NN,r'⟩:=hm;rw [ho] at NN; cases NN
  exact ⟨_,es',ep',hL,r'⟩) hok I.bare
theorem Inv.call {g':Array GenState} {t':Nat} {d':Drawn} (I:Inv X pins σ H s) (u:Un (ix X.stack) ch H H' s.heap h') (hok:kr X.prog X.w H' h') (hg:AllBare g')
  (M7:∀b∈ch,(b∈X.ex\/X.s₀.heap.objs.size<=b)/\b≠X.env.locals/\(∀x c,X.env.cells.lookup x=some c->c≠b)/\∀p∈X.pn++pins,p.1≠b) :
  Inv X pins σ H' { s with heap:=h',gens:=g',drawn:=d',toks:=t' }:=by
 obtain ⟨m,⟨o,es,ep,ho,r⟩,_⟩:=id I.loc;obtain ⟨sl,hL⟩:=u.any ho I.free fun z=>(M7 _ z).2.1 rfl;exact I.step (ch:=ch) M7 (fun b o hL hb hc e n=>u.keep b o e n (fun z=>(Lj.mp (I.stkSub b z)).elim hL hb) hc) (fun b o _ _ hc e n=>u.any e n hc) (fun b o hc e n=>u.free b o e n hc) (fun b o hc e=>u.there b o e hc) u.tups u.frzs u.tbls (fun m' hm=>by
  obtain ⟨o',es',ep',NN,r'⟩:=hm;rw [ho] at NN; cases NN
  exact ⟨_,es',ep',hL,r'⟩) hok hg
theorem Inv.turned {t':Nat} {it:Addr} (I:Inv X pins σ H s) (k:∀b o,b≠it->s.heap.get? b=some o->h'.get? b=some o) (hn:H it=none) (hL:it≠X.env.locals)
  (h1:it∈X.ex\/X.s₀.heap.objs.size<=it) (h2:∀x c,X.env.cells.lookup x=some c->c≠it) (h3:∀p∈X.pn++pins,p.1≠it):Inv X pins σ H { s with heap:=h',toks:=t' }:=by
 have nit:∀b u,H b=some u->b≠it:=fun b u e z=>by rw [z,hn] at e; cases e
 refine I.step (g':=s.gens) (d':=s.drawn) (ch:=[it]) (fun b hb=>?_) (fun b o _ _ hc e _=>k b o (fun z=>hc (by simp [z])) e) (fun b o _ _ hc e _=>⟨o.slots,k b o (fun z=>hc (by simp [z])) e⟩) (fun _ _ _ _ n=>n)
  (fun b o hc e=>⟨o,k b o (fun z=>hc (by simp [z])) e⟩) (fun _ _ e=>e) (fun _ _ _ e=>e) (fun b ps e=>⟨#[],by rw [e]; simp⟩) (fun m hm=>?_) (fun b u e=>?_) I.bare
 ·have e:b=it:=by simpa using hb
  subst e;exact ⟨h1,hL,h2,h3⟩
 ·obtain ⟨o,es,ep,ho,r⟩:=hm;exact ⟨o,es,ep,k _ o (Ne.symm hL) ho,r⟩
 ·refine (I.hok b u e).stay (fun c v hc q=>k c v ?_ q) (fun _ q=>q) fun _ _ q=>q;rcases hc with z|z
  ·rw [z]; exact nit b u e
  ·exact nit c _ z
theorem Inv.tok (I:Inv X pins σ H s) (t:Nat):Inv X pins σ H { s with toks:=t }:=I.un (h':=s.heap) (t':=t) Un.refl I.hok
theorem Inv.kept {t':Nat} (I:Inv X pins σ H s) (k:∀b u,s.heap.get? b=some u->h'.get? b=some u):Inv X pins σ H { s with heap:=h',toks:=t' }:=I.un (Un.kept k) (I.hok.kept k)
theorem Inv.laid {a:Addr} {o:HO} {t':Nat} (I:Inv X pins σ H s) (k:∀b u,s.heap.get? b=some u->h'.get? b=some u) (hp:s.heap.objs.size<=a) (new:bU X.prog X.w (upd H a o) h' a o) :
  Inv X pins σ (upd H a o) { s with heap:=h',toks:=t' }:=I.un (Un.laid k hp (I.hok.fresh hp)) (I.hok.laid k hp new)
theorem Inv.write {x e:Addr} {o:HO} {t':Nat} (I:Inv X pins σ H s) (mu:JF (H x)) (he:e=x\/H e=some (.own x)) (k:∀b u,b≠e->s.heap.get? b=some u->h'.get? b=some u) (heo:∃u,h'.get? e=some u)
  (new:bU X.prog X.w (upd H x o) h' x o):Inv X pins σ (upd H x o) { s with heap:=h',toks:=t' }:=I.un (Un.write mu he k heo) (I.hok.write mu he k heo new)
theorem Inv.pins_of {Ou:List (Addr×Obj)} (I:Inv X pins σ H s) (h:∀p∈Ou,s.heap.get? p.1=some p.2/\H p.1=none/\p.1≠X.env.locals/\p.1∉X.fs/\∀v,p.2.data≠.cell v):Inv X Ou σ H s:=
 ⟨I.ok,I.os,I.bare,I.base,I.loc,I.cell,I.free,I.freeC,fun p hp=>(Lk.mp hp).elim (fun z=>I.pin p (K8 _ z)) (h p),I.hok,I.len⟩
variable {i:Nat} {x:Str}
theorem uW {N:List Str} (hN:N.Nodup) {j:Nat} (a:N[i]?=some x) (b:N[j]?=some x):i=j:=by
 obtain ⟨h1,e1⟩:=Lp.mp a;obtain ⟨h2,e2⟩:=Lp.mp b;exact (List.getElem_inj hN).mp (e1.trans e2.symm)
theorem qT {M:Model} {A:Around} {E:Value->Shared->Prop} {v:V} {u:Value} {Q:Unit->Shared->Prop} (I:Inv X pins σ H s) (hN:X.N.Nodup) (hi:X.N[i]?=some x) (hx:HU X.env.scope x) (r:bA v u)
  (h:∀s',Inv X pins (σ.set i (some v)) H s'->(∃a,Heap.SameBut a s.heap s'.heap/\(a=X.env.locals\/X.env.cells.lookup x=some a))->Q () s') (hf:X.fn x=true\/X.env.scope.names.lookup x=some .local:=by first|exact .inl rfl|exact .inr rfl|assumption):wpAny M A (storeName X.env x u) Q E s:=by
 obtain ⟨m,hn,hl⟩:=id I.loc;have hcls:(X.env.scope.kind==.class||(X.env.scope.kind==.module&&X.env.locals != X.env.globals))=false:=by rw [I.ok.kind]; rfl
 have hiσ:i<σ.length:=by rw [I.len]; exact (Lp.mp hi).1
 have cne:=I.cne;have tracked:∀{a:Addr} {h':Heap},(∃o,s.heap.get? a=some o/\H a=none)->Heap.SameBut a s.heap h'->kr X.prog X.w H h':=fun {a h'} ha hs b ob e=>by
  obtain ⟨_,_,Mj⟩:=ha;refine (I.hok b ob e).stay (fun c w' hc q=>(hs.2 c ?_).trans q) (fun _ q=>q) fun _ _ q=>q;rintro rfl;rcases hc with rfl|hc
  ·rw [Mj] at e; cases e
  ·rw [Mj] at hc; cases hc
 rcases hx with hk|hk
 ·refine wpAny_storeName_local hk hn (fun h' Oa hs=>?_) hcls;obtain ⟨oL,_,_,hoL,_⟩:=id hn;refine h _ ⟨I.ok,I.os,I.bare,⟨fun b o e n hb hx=>?_,fun b o e n hb hx=>?_,I.base.free,fun b o e hx=>?_,I.base.tups,I.base.frzs,I.base.tbls⟩,⟨_,Oa,fun j y v' e1 e2 e3=>?_⟩,fun y c e=>?_,I.free,I.freeC,fun p hp=>?_,tracked ⟨oL,hoL,I.free⟩ hs,by simpa using I.len⟩ ⟨_,hs,.inl rfl⟩
  ·exact (hs.2 b (LA (Lx (Lc e) I.ok.above))).trans (I.base.keep b o e n hb hx)
  ·obtain ⟨sl,e1⟩:=I.base.slot b o e n hb hx;exact ⟨sl,(hs.2 b (LA (Lx (Lc e) I.ok.above))).trans e1⟩
  ·obtain ⟨o',e1⟩:=I.base.there b o e hx;exact ⟨o',(hs.2 b (LA (Lx (Lc e) I.ok.above))).trans e1⟩
  ·by_cases hj:j=i
   ·subst hj;rw [hi] at e1; cases e1
    rw [List.getElem?_set_self hiσ] at e2;cases e2;exact ⟨u,r,.inl ⟨hk,0x4⟩⟩
   ·rw [List.getElem?_set_ne (Ne.symm hj)] at e2;obtain ⟨u',r',q⟩:=hl j y v' e1 e2 e3;refine ⟨u',r',?_⟩;rcases q with ⟨k,e⟩|⟨k,c,e,z⟩
    ·refine .inl ⟨k,?_⟩;have:y≠x:=fun e=>hj (uW hN e1 (e▸hi));simp [this,e]
    ·exact .inr ⟨k,c,e,z.sameBut hs (cne y c e)⟩
  ·obtain ⟨w',z⟩:=I.cell y c e;exact ⟨w',z.sameBut hs (cne y c e)⟩
  ·obtain ⟨e,n,ne,nf,d⟩:=I.pin p hp;exact ⟨(hs.2 p.1 ne).trans e,n,ne,nf,d⟩
 ·have hfn:X.fn x=true:=by
   rcases hf with z|z
   ·exact z
   ·rw [z] at hk; cases hk
  obtain ⟨c,hc⟩:=I.ok.has x (.inl hk);obtain ⟨w',z⟩:=I.cell x c hc;refine wpAny_storeName_cell I.ok.kind hk hc z (fun h' MG hs=>?_);obtain ⟨oc,hoc,hocd⟩:=id z;refine h { s with heap:=h' } ⟨I.ok,I.os,I.bare,⟨fun b o e n hb hx=>?_,fun b o e n hb hx=>?_,I.base.free,fun b o e hx=>?_,I.base.tups,I.base.frzs,I.base.tbls⟩,⟨m,hn.sameBut hs (Ne.symm (cne x c hc)),fun j y v' e1 e2 e3=>?_⟩,fun y c' e=>?_,I.free,I.freeC,fun p hp=>?_,tracked ⟨oc,hoc,I.freeC x c hc⟩ hs,by simpa using I.len⟩ ⟨c,hs,.inr hc⟩
  ·exact (hs.2 b (LA (Lx (Lc e) (I.ok.cab x c hfn hc)))).trans (I.base.keep b o e n hb hx)
  ·obtain ⟨sl,e1⟩:=I.base.slot b o e n hb hx;exact ⟨sl,(hs.2 b (LA (Lx (Lc e) (I.ok.cab x c hfn hc)))).trans e1⟩
  ·obtain ⟨o',e1⟩:=I.base.there b o e hx;exact ⟨o',(hs.2 b (LA (Lx (Lc e) (I.ok.cab x c hfn hc)))).trans e1⟩
  ·by_cases hj:j=i
   ·subst hj;rw [hi] at e1; cases e1
    rw [List.getElem?_set_self hiσ] at e2;cases e2;exact ⟨u,r,.inr ⟨.inl hk,c,hc,MG⟩⟩
   ·rw [List.getElem?_set_ne (Ne.symm hj)] at e2;obtain ⟨u',r',q⟩:=hl j y v' e1 e2 e3;refine ⟨u',r',?_⟩;rcases q with q|⟨k,c',e,z'⟩
    ·exact .inl q
    ·refine .inr ⟨k,c',e,z'.sameBut hs ?_⟩;rintro rfl;exact hj (uW hN e1 (I.ok.inj _ _ _ e hc▸hi))
  ·by_cases hcc:c'=c
   ·subst hcc; exact ⟨_,MG⟩
   ·obtain ⟨w2,z2⟩:=I.cell y c' e;exact ⟨w2,z2.sameBut hs hcc⟩
  ·obtain ⟨e,n,ne,nf,d⟩:=I.pin p hp;refine ⟨(hs.2 p.1 ?_).trans e,n,ne,nf,d⟩;intro q;rw [q,hoc] at e;have q':oc=p.2:=LD e;exact d w' (by rw [<-q']; exact hocd)
theorem uQ {M:Model} {A:Around} {E:Value->Shared->Prop} {v:V} {u:Value} {Q:Unit->Shared->Prop} (I:Inv X pins σ H s) (hN:X.N.Nodup) (hi:X.N[i]?=some x) (hx:HU X.env.scope x) (r:bA v u)
  (h:∀s',Inv X pins (σ.set i (some v)) H s'->Q () s') (hf:X.fn x=true\/X.env.scope.names.lookup x=some .local:=by first|exact .inl rfl|exact .inr rfl|assumption):wpAny M A (storeName X.env x u) Q E s:=
 qT I hN hi hx r (fun s' I' _=>h s' I') hf
theorem Inv.call' {s':Shared} (I:Inv X pins σ H s) (ho:s'.os=s.os) (u:Un (ix X.stack) ch H H' s.heap s'.heap) (hok:kr X.prog X.w H' s'.heap) (hg:AllBare s'.gens)
  (M7:∀b∈ch,(b∈X.ex\/X.s₀.heap.objs.size<=b)/\b≠X.env.locals/\(∀x c,X.env.cells.lookup x=some c->c≠b)/\∀p∈X.pn++pins,p.1≠b):Inv X pins σ H' s':=by
 obtain ⟨h',g',d',t',o'⟩:=s';have e:o'=s.os:=ho;subst e;exact I.call (g':=g') (t':=t') (d':=d') u hok hg M7
end
abbrev XK:=Value->Option Addr->Hp->Prop
abbrev St:=List (Option V)
abbrev VK:=V->Hp->Prop
abbrev TE:=St->Hp->VK->Prop
abbrev TT:=St->Hp->(Bool->Hp->Prop)->Prop
abbrev TA:=St->Hp->(List V->Hp->Prop)->Prop
structure Ends where
 nx:St->Hp->Prop
 rt:VK
 bk:St->Hp->Prop:=fun _ _=>False
 ct:St->Hp->Prop:=fun _ _=>False
abbrev TS:=Ends->St->Hp->Prop
def EP (X:Cx) (pins:List (Addr×Obj)) (σ:St) (Q:VK) (u:Value) (s':Shared):Prop:=∃v H',Inv X pins σ H' s'/\bA v u/\Q v H'
def TP (X:Cx) (pins:List (Addr×Obj)) (σ:St) (Q:Bool->Hp->Prop) (b:Bool) (s':Shared):Prop:=∃H',Inv X pins σ H' s'/\Q b H'
def AP (X:Cx) (pins:List (Addr×Obj)) (σ:St) (Q:List V->Hp->Prop) (us:List Value) (s':Shared):Prop:=∃vs H',Inv X pins σ H' s'/\aS vs us/\Q vs H'
def SP (X:Cx) (pins:List (Addr×Obj)) (D:Ends) (f:Flow) (s':Shared):Prop:=
 match f with
 |.next=>∃σ' H',Inv X pins σ' H' s'/\D.nx σ' H'
 |.brk=>∃σ' H',Inv X pins σ' H' s'/\D.bk σ' H'
 |.cont=>∃σ' H',Inv X pins σ' H' s'/\D.ct σ' H'
 |.ret u=>∃v σ' H',Inv X pins σ' H' s'/\bA v u/\D.rt v H'
def PE (X:Cx) (e:Expr) (t:TE):Prop:=
 ∀(pins:List (Addr×Obj)) (s:Shared) (σ:St) (H:Hp) (Q:VK),Inv X pins σ H s->t σ H Q->wpAny (model X.prog X.w) X.A (eval e X.env) (EP X pins σ Q) X.xe s
def PT (X:Cx) (e:Expr) (t:TT):Prop:=
 ∀(pins:List (Addr×Obj)) (s:Shared) (σ:St) (H:Hp) (Q:Bool->Hp->Prop),Inv X pins σ H s->t σ H Q->wpAny (model X.prog X.w) X.A (isTrue e X.env (eval e X.env)) (TP X pins σ Q) X.xe s
def PW (X:Cx) (e:Expr) (t:TT):Prop:=
 ∀(whole:Sem Value) (pins:List (Addr×Obj)) (s:Shared) (σ:St) (H:Hp) (Q:Bool->Hp->Prop),Inv X pins σ H s->t σ H Q->wpAny (model X.prog X.w) X.A (isTrue e X.env whole) (TP X pins σ Q) X.xe s
variable {X:Cx} {e:Expr}
theorem PW.pt {t:TT} (h:PW X e t):PT X e t:=h _
def PA (X:Cx) (es:List Expr) (t:TA):Prop:=
 ∀(pos:Pos) (pins:List (Addr×Obj)) (s:Shared) (σ:St) (H:Hp) (Q:List V->Hp->Prop),Inv X pins σ H s->t σ H Q->wpAny (model X.prog X.w) X.A (spliced (backTo pos (starEach es X.env))) (AP X pins σ Q) X.xe s
def PS (X:Cx) (st:Stmt) (t:TS):Prop:=
 ∀(pins:List (Addr×Obj)) (s:Shared) (σ:St) (H:Hp) (D:Ends),Inv X pins σ H s->t D σ H->wpAny (model X.prog X.w) X.A (exec st X.env) (SP X pins D) X.xe s
def qj (X:Cx) (st:List Stmt) (t:TS):Prop:=
 ∀(pins:List (Addr×Obj)) (s:Shared) (σ:St) (H:Hp) (D:Ends),Inv X pins σ H s->t D σ H->wpAny (model X.prog X.w) X.A (execs st X.env) (SP X pins D) X.xe s
variable {A:Around} {E:Value->Shared->Prop} {s:Shared}
theorem bX {α:Type} {t:Sem α} {Q Q':α->Shared->Prop} {M:Model} (h:wpAny M A t Q E s) (hQ:∀a s,Q a s->Q' a s):wpAny M A t Q' E s:=wpAny_mono h hQ fun _ _ x=>x
section
variable {X:Cx}
variable {pins:List (Addr×Obj)} {σ:St}
theorem J6 {a b:Expr} {ta tb:TE} (ha:PE X a ta) (hb:PE X b tb) {R:V->V->Hp->Prop} (I:Inv X pins σ H s) (h:ta σ H fun x H1=>tb σ H1 fun y H2=>R x y H2)
  {α:Type} {Q:α->Shared->Prop} {f:Value->Value->Sem α}
  (hf:∀v u s2 x y H2,Inv X pins σ H2 s2->bA x v->bA y u->R x y H2->wpAny (model X.prog X.w) X.A (f v u) Q X.xe s2) :
  wpAny (model X.prog X.w) X.A (eval a X.env) (fun v s₁=>wpAny (model X.prog X.w) X.A (eval b X.env) (fun u s₂=>wpAny (model X.prog X.w) X.A (f v u) Q X.xe s₂) X.xe s₁) X.xe s:=by
 refine bX (ha pins s σ H _ I h) fun v s1 ⟨x,H1,I1,r1,q1⟩=>?_;refine bX (hb pins s1 σ H1 _ I1 q1) fun u s2 ⟨y,H2,I2,r2,q2⟩=>?_;exact hf v u s2 x y H2 I2 r1 r2 q2
def gy (i:Nat):TE:=fun σ H Q=>∃v,σ[i]?=some (some v)/\Q v H
def tC (v:V):TE:=fun _ H Q=>Q v H
variable {x:Str} {pos:Pos}
theorem G2 {i:Nat} (hN:X.N[i]?=some x) (hv:JA X.env.scope x) (hd:(x==("__debug__" : Str))=false:=by decide) (Ng:(x==("__classdict__" : Str))=false:=by decide):PE X (.Name x pos) (gy i):=by
 intro pins s σ H Q I h;obtain ⟨v,e,h⟩:=h;obtain ⟨m,hn,hl⟩:=I.loc;obtain ⟨u,r,l⟩:=hl i x v hN e hv;have fin:EP X pins σ Q u s:=⟨v,H,I,r,h⟩;rcases l with ⟨hk,hm⟩|⟨hk,c,hc,MJ⟩
 ·exact wpAny_Name (wpAny_loadName_local I.ok.kind hk hn hm fin) hd
 ·rcases hk with hk|hk
  ·exact wpAny_Name (wpAny_loadName_cell I.ok.kind hk hc MJ fin) hd
  ·exact wpAny_Name (wpAny_loadName_free I.ok.kind hk hc MJ fin Ng) hd
theorem AX {i j pos}:PE X (.Constant (.int i) j pos) (tC (.int i)):=fun _ _ _ H _ I h=>wpAny_Constant_int ⟨.int i,H,I.tok _,⟨_,rfl⟩,h⟩
theorem IB {b j pos}:PE X (.Constant (.bool b) j pos) (tC (.bl b)):=fun _ _ _ H _ I h=>Constant_bool ⟨.bl b,H,I,rfl,h⟩
theorem Ae {x j pos}:PE X (.Constant (.str x) j pos) (tC (.str x)):=fun _ _ _ H _ I h=>Calls.Constant_str ⟨.str x,H,I.tok _,⟨_,rfl⟩,h⟩
def Gl (X:Cx) (x:Str):Prop:=X.env.kindOf x=some .globalImplicit
variable {u:Value}
theorem om {Q:Value->Shared->Prop} (I:Inv X pins σ H s) (hg:Gl X x) (hm:X.mg x=some u) (h:Q u s)
  (hd:(x==("__debug__" : Str))=false:=by decide):wpAny (model X.prog X.w) X.A (eval (.Name x pos) X.env) Q E s:=
 Calls.Name_function_global I.ok.kind hg (Calls.loadGlobal_global (by rw [I.ok.glob]; exact I.mod.glob.keeps I.bk) hm h) hd
theorem kM {Q:Value->Shared->Prop} (I:Inv X pins σ H s) (hg:Gl X x) (hm:X.mg x=none) (hv:bootBuiltins x=some u) (h:Q u s)
  (hn:x ≠ "__name__" :=by decide) (hd:(x==("__debug__" : Str))=false:=by decide):wpAny (model X.prog X.w) X.A (eval (.Name x pos) X.env) Q E s:=by
 obtain ⟨mb,h1,h2⟩:=I.mod.blt;exact Calls.Name_function_global I.ok.kind hg (Calls.loadGlobal_builtin (by rw [I.ok.glob]; exact I.mod.glob.keeps I.bk) hm (by rw [I.ok.blt]; exact h1.keeps I.bk) ((h2 x hn).trans hv) h) hd
theorem Ed {v:V} (hg:Gl X x) (hm:X.mg x=some u) (r:bA v u) (hd:(x==("__debug__" : Str))=false:=by decide):PE X (.Name x pos) (tC v):=
 fun _ _ _ H _ I h=>om I hg hm ⟨v,H,I,r,h⟩ hd
variable {a b:Expr} {ta tb:TE} {pos:Pos}
def PC (X:Cx) (op:CmpOp) (a b:Expr) (t:TE):Prop:=
 ∀(pins:List (Addr×Obj)) (s:Shared) (σ:St) (H:Hp) (Q:VK),Inv X pins σ H s->t σ H Q ->
  wpAny (model X.prog X.w) X.A (eval a X.env) (fun v s₁=>wpAny (model X.prog X.w) X.A (eval b X.env) (fun u s₂=>wpAny (model X.prog X.w) X.A (compareOp op v u) (EP X pins σ Q) X.xe s₂) X.xe s₁) X.xe s
theorem B5 (b:Expr) {op:CmpOp} (h:op≠.In) (h2:op≠.NotIn):behindInMarks op b=false:=by
 have e1:(op==CmpOp.In)=false:=by cases op <;> first|rfl|exact absurd rfl h
 have e2:(op==CmpOp.NotIn)=false:=by cases op <;> first|rfl|exact absurd rfl h2
 cases b <;> simp [behindInMarks,e1,e2]
def tB (t:TE):TT:=fun σ H Q=>t σ H fun x H1=>∃c,x=.bl c/\Q c H1
variable {t:TE}
theorem JH {op:CmpOp} (h:PC X op a b t) (h1:behindInMarks op b=false:=by first|exact B5 _ 0x3 0x3|rfl):PT X (.Compare a [op] [b] pos) (tB t):=by
 intro pins s σ H Q I hw;refine wpAny_isTrue_Compare1 (bX (h pins s σ H _ I hw) fun v s1 h1=>bX h1 fun u s2 h2=>bX h2 fun c s3 ⟨x,H1,I1,r1,q1⟩=>?_) h1;obtain ⟨d,rfl,q⟩:=q1;cases r1;exact wpAny_truthy_bool ⟨H1,I1,q⟩
theorem HM (h:PE X e t) (he:∀whole,isTrue e X.env whole=(do let v <-whole; standAt e.pos; holding [v] (truthy v)):=by intro _; rfl):PT X e (tB t):=by
 intro pins s σ H Q I hw;refine isTrue_plain (bX (h pins s σ H _ I hw) fun v s1 ⟨x,H1,I1,r1,q1⟩=>?_) (he _);obtain ⟨d,rfl,q⟩:=q1;cases r1;exact wpAny_truthy_bool ⟨H1,I1,q⟩
variable {tA tB':TT} {cy:List Expr}
def J0 (t u:TT):TT:=fun σ H Q=>t σ H fun c H1=>if c=true then u σ H1 Q else Q false H1
def KQ (t u:TT):TT:=fun σ H Q=>t σ H fun c H1=>if c=true then Q true H1 else u σ H1 Q
def J5 (t:TT):TT:=fun σ H Q=>t σ H fun c H1=>Q (!c) H1
theorem DB (ha:PT X a tA):PW X (.BoolOp .And [a] pos) tA:=by
 intro wh pins s σ H Q I h;refine isTrue_and (bX (ha pins s σ H Q I h) fun c s1 e=>?_);cases c with
 |true=>exact isTrue_and_nil e
 |false=>exact e
theorem Gs (ha:PT X a tA):PW X (.BoolOp .Or [a] pos) tA:=by
 intro wh pins s σ H Q I h;refine isTrue_or (bX (ha pins s σ H Q I h) fun c s1 e=>?_);cases c with
 |false=>exact isTrue_or_nil e
 |true=>exact e
theorem GU (ha:PT X a tA) (hb:PW X (.BoolOp .And (b::cy) pos) tB'):PW X (.BoolOp .And (a::b::cy) pos) (J0 tA tB'):=by
 intro wh pins s σ H Q I h;refine isTrue_and (bX (ha pins s σ H _ I h) fun c s1 ⟨H1,I1,q1⟩=>?_);cases c with
 |true=>exact hb wh pins s1 σ H1 Q I1 q1
 |false=>exact ⟨H1,I1,q1⟩
theorem IE (ha:PT X a tA) (hb:PW X (.BoolOp .Or (b::cy) pos) tB'):PW X (.BoolOp .Or (a::b::cy) pos) (KQ tA tB'):=by
 intro wh pins s σ H Q I h;refine isTrue_or (bX (ha pins s σ H _ I h) fun c s1 ⟨H1,I1,q1⟩=>?_);cases c with
 |true=>exact ⟨H1,I1,q1⟩
 |false=>exact hb wh pins s1 σ H1 Q I1 q1
theorem FX (ha:PT X a tA):PT X (.UnaryOp .Not a pos) (J5 tA):=by
 intro pins s σ H Q I h;exact isTrue_not (ha pins s σ H (fun c H1=>Q (!c) H1) I h)
def II (ta tb:TE):TE:=fun σ H Q=>ta σ H fun x H1=>∃c,x=.bl c/\if c=true then tb σ H1 Q else Q (.bl false) H1
def Jf (ta:TE):TE:=fun σ H Q=>ta σ H fun x H1=>∃c,x=.bl c/\Q (.bl (!c)) H1
theorem HC {op} (h:PE X a t):PE X (.BoolOp op [a] pos) t:=fun pins s σ H Q I hw=>BoolOp_one (h pins s σ H Q I hw)
theorem Ge (ha:PE X a ta) (hb:PE X (.BoolOp .And (b::cy) pos) tb):PE X (.BoolOp .And (a::b::cy) pos) (II ta tb):=by
 intro pins s σ H Q I h;refine BoolOp_and (bX (ha pins s σ H _ I h) fun v s1 ⟨x,H1,I1,r1,q1⟩=>?_);obtain ⟨c,rfl,q1⟩:=q1;cases r1;refine wpAny_truthy_bool ?_;cases c with
 |true=>exact hb pins s1 σ H1 Q I1 q1
 |false=>exact ⟨.bl false,H1,I1,rfl,q1⟩
theorem Gp (ha:PE X a ta):PE X (.UnaryOp .Not a pos) (Jf ta):=by
 intro pins s σ H Q I h;refine UnaryOp_ (bX (ha pins s σ H _ I h) fun v s1 ⟨x,H1,I1,r1,q1⟩=>?_);obtain ⟨c,rfl,q1⟩:=q1;cases r1;exact not_of (wpAny_truthy_bool ⟨.bl (!c),H1,I1,rfl,q1⟩)
end
def eN (K:Li) (H:Hp) (a:Addr) (xs:List V):Prop:=
 Rd H a (.lst xs) \/
  ∃(o:Obj) (D':Array Value) (n:Nat),K.lookup a=some o/\o.cls=.type "list" /\ o.dict=none/\o.data=.seq D' n/\D'.size<=sizeLine/\aS xs D'.toList
def j8 (K:Li) (H:Hp) (a:Addr) (xs:List V):Prop:=
 Rd H a (.tup xs) \/
  ∃(o:Obj) (D':Array Value) (n:Nat),K.lookup a=some o/\o.cls=.type "tuple" /\ o.data=.seq D' n/\D'.size<=sizeLine/\aS xs D'.toList
noncomputable def JK:Value->Option V
 |.none=>some .non
 |.bool b=>some (.bl b)
 |.int i _=>some (.int i)
 |.str x _=>some (.str x)
 |.bytes b _=>some (.byt b)
 |.float b _=>some (.flt b)
 |.ref a=>some (.ref a)
 |.type n=>some (.ty n)
 |_=>none
variable {u:Value}
theorem bA.abs {x:V} (r:bA x u):JK u=some x:=by
 cases x with
 |non=>cases r; rfl
 |bl _=>cases r; rfl
 |int _=>obtain ⟨t,rfl⟩:=r; rfl
 |str _=>obtain ⟨t,rfl⟩:=r; rfl
 |byt _=>obtain ⟨t,rfl⟩:=r; rfl
 |flt _=>obtain ⟨t,rfl⟩:=r; rfl
 |ref _=>cases r; rfl
 |ty _=>cases r; rfl
theorem bA.inj {x y:V} {u:Value} (r:bA x u) (q:bA y u):x=y:=LD (r.abs.symm.trans q.abs)
theorem aS.inj:∀{xs ys:List V} {us:List Value},aS xs us->aS ys us->xs=ys
 |_,_,_,.nil,.nil=>rfl
 |_,_,_,.cons r t,.cons r' t'=>by rw [r.inj r',aS.inj t t']
section
variable {X:Cx} {pins:List (Addr×Obj)} {σ:St} {H:Hp} {s:Shared} {a:Addr} {xs ys:List V}
theorem eN.of {K:Li} (h:H a=some (.lst xs)):eN K H a xs:=.inl (.inl h)
theorem j8.of {K:Li} (h:H a=some (.tup xs)):j8 K H a xs:=.inl (.inl h)
theorem Inv.list (I:Inv X pins σ H s) (h:eN X.K H a xs):∃D':List Value,aS xs D'/\PlainL s.heap a D'.toArray/\xs.length<=sizeLine:=by
 rcases h with h|⟨o,D',n,hk,hc,hd,hs,hz,r⟩
 ·obtain ⟨z,D',n,r,e⟩:=h.ok I.hok;exact ⟨D',r,⟨_,n,e,rfl,rfl,rfl⟩,z⟩
 ·refine ⟨D'.toList,r,⟨o,n,I.kIn a o hk,hc,hd,by simpa using hs⟩,?_⟩;have e:=r.length;simp only [Array.length_toList] at e;lia
theorem Inv.tuple (I:Inv X pins σ H s) (h:j8 X.K H a xs):∃D':List Value,aS xs D'/\IsTup s.heap a D'.toArray/\xs.length<=sizeLine:=by
 rcases h with h|⟨o,D',n,hk,hc,hs,hz,r⟩
 ·obtain ⟨z,D',r,p⟩:=h.ok I.hok;exact ⟨D',r,p,z⟩
 ·refine ⟨D'.toList,r,⟨o,I.kIn a o hk,hc,n,by simpa using hs⟩,?_⟩;have e:=r.length;simp only [Array.length_toList] at e;lia
theorem Inv.list_inj (I:Inv X pins σ H s) (h:eN X.K H a xs) (h':eN X.K H a ys):xs=ys:=by
 obtain ⟨D',r,⟨o,n,e,_,_,d⟩,_⟩:=I.list h;obtain ⟨its',r',⟨o',n',e',_,_,d'⟩,_⟩:=I.list h';rw [e] at e'; cases e'
 rw [d] at d'
 injection d' with d1 _
 have:D'=its':=by simpa using congrArg Array.toList d1
 subst this;exact r.inj r'
theorem Inv.tuple_inj (I:Inv X pins σ H s) (h:j8 X.K H a xs) (h':j8 X.K H a ys):xs=ys:=by
 obtain ⟨D',r,⟨o,e,_,n,d⟩,_⟩:=I.tuple h;obtain ⟨its',r',⟨o',e',_,n',d'⟩,_⟩:=I.tuple h';rw [e] at e'; cases e'
 rw [d] at d'
 injection d' with d1 _
 have:D'=its':=by simpa using congrArg Array.toList d1
 subst this;exact r.inj r'
end
noncomputable abbrev Cx.wish (X:Cx) (E:Value->Shared->Prop):Cx:={ X with xe:=E }
noncomputable abbrev Cx.nox (X:Cx):Cx:=X.wish fun _ _=>False
theorem Cx.Ok.wish {X:Cx} (ok:X.Ok) (E:Value->Shared->Prop):(X.wish E).Ok:=
 ⟨ok.mod,ok.kind,ok.glob,ok.blt,ok.above,ok.inj,ok.has,ok.cab,ok.hd,ok.frames,ok.stk,ok.exf,ok.bs,ok.bsz,ok.noex,ok.exfs,ok.funs,ok.frf⟩
theorem Cx.Ok.unwish (ok:(X.wish E).Ok):X.Ok:=
 ⟨ok.mod,ok.kind,ok.glob,ok.blt,ok.above,ok.inj,ok.has,ok.cab,ok.hd,ok.frames,ok.stk,ok.exf,ok.bs,ok.bsz,ok.noex,ok.exfs,ok.funs,ok.frf⟩
section
variable {X:Cx} {pins:List (Addr×Obj)} {σ:St} {H:Hp} {s:Shared} {E:Value->Shared->Prop}
theorem Inv.wish (I:Inv X pins σ H s) (E:Value->Shared->Prop):Inv (X.wish E) pins σ H s:=⟨I.ok.wish E,I.os,I.bare,I.base,I.loc,I.cell,I.free,I.freeC,I.pin,I.hok,I.len⟩
theorem Inv.unwish (I:Inv (X.wish E) pins σ H s):Inv X pins σ H s:=⟨I.ok.unwish,I.os,I.bare,I.base,I.loc,I.cell,I.free,I.freeC,I.pin,I.hok,I.len⟩
theorem SP.unwish {D:Ends} {f:Flow} {s':Shared} (h:SP (X.wish E) pins D f s'):SP X pins D f s':=by
 cases f with
 |next=>obtain ⟨σ',H',I,q⟩:=h; exact ⟨σ',H',I.unwish,q⟩
 |brk=>obtain ⟨σ',H',I,q⟩:=h; exact ⟨σ',H',I.unwish,q⟩
 |cont=>obtain ⟨σ',H',I,q⟩:=h; exact ⟨σ',H',I.unwish,q⟩
 |ret u=>obtain ⟨v,σ',H',I,r,q⟩:=h; exact ⟨v,σ',H',I.unwish,r,q⟩
theorem qj.nox {st:List Stmt} {t:TS} (h:qj X.nox st t):qj X st t:=fun pins s σ H D I hw=>
 wpAny_mono (h pins s σ H D (I.wish _) hw) (fun _ _ q=>q.unwish) fun _ _ z=>False.elim z
end
section
variable {X:Cx} {st:Stmt} {cy:List Stmt} {t u:TS} {e:Expr} {te:TE} {pos:Pos}
def Iy:TS:=fun D σ H=>D.nx σ H
def Ig (t u:TS):TS:=fun D σ H=>t { D with nx:=u D } σ H
theorem ou:qj X [] Iy:=fun _ _ σ H _ I h=>wpAny_execs_nil ⟨σ,H,I,h⟩
theorem fP (h1:PS X st t) (h2:qj X cy u):qj X (st::cy) (Ig t u):=by
 intro pins s σ H D I h;refine wpAny_execs_cons (bX (h1 pins s σ H { D with nx:=u D } I h) fun f s1 q=>?_);cases f with
 |next=>
  obtain ⟨σ',H',I',q⟩:=q;exact h2 pins s1 σ' H' D I' q
 |ret v=>exact q
 |brk=>exact q
 |cont=>exact q
theorem fE (h1:PS X st t):qj X [st] t:=by
 intro pins s σ H D I h;refine wpAny_execs_cons (bX (h1 pins s σ H D I h) fun f s1 q=>?_);cases f with
 |next=>exact wpAny_execs_nil q
 |ret v=>exact q
 |brk=>exact q
 |cont=>exact q
theorem Inv.quiet {pins:List (Addr×Obj)} {σ:St} (I:Inv X pins σ H s):interactive X.env=false:=by simp [interactive,I.ok.kind]
def Il (te:TE):TS:=fun D σ H=>te σ H fun _ H1=>D.nx σ H1
theorem kd (he:PE X e te) (hs:swapsWith e none pos.line X.env=pure false:=by rfl):PS X (.Expr e pos) (Il te):=by
 intro pins s σ H D I h;exact wpAny_Expr_any (bX (he pins s σ H _ I h) fun v s1 ⟨x,H1,I1,r1,q1⟩=>⟨σ,H1,I1,q1⟩) I.quiet hs
def Ir (te:TE):TS:=fun D σ H=>te σ H D.rt
theorem vM (he:PE X e te):PS X (.Return (some e) pos) (Ir te):=by
 intro pins s σ H D I h;exact wpAny_Return_some (bX (he pins s σ H _ I h) fun v s1 ⟨x,H1,I1,r1,q1⟩=>⟨x,σ,H1,I1,r1,q1⟩)
def J9 (c:TT) (t u:TS):TS:=fun D σ H=>c σ H fun b H1=>if b=true then t D σ H1 else u D σ H1
theorem yB {c:Expr} {a b:List Stmt} {tc:TT} (hc:PT X c tc) (ha:qj X a t) (hb:qj X b u):PS X (.If c a b pos) (J9 tc t u):=by
 intro pins s σ H D I h;refine wpAny_If (bX (hc pins s σ H _ I h) fun d s1 ⟨H1,I1,q1⟩=>?_);cases d with
 |true=>exact ha pins s1 σ H1 D I1 q1
 |false=>exact hb pins s1 σ H1 D I1 q1
end
abbrev TG:=V->St->Hp->(St->Hp->Prop)->Prop
abbrev CH:=List V->St->Hp->(St->Hp->Prop)->Prop
def PG (X:Cx) (target:Expr) (t:TG):Prop:=
 ∀(pins:List (Addr×Obj)) (s:Shared) (σ:St) (H:Hp) (v:V) (u:Value) (Q:St->Hp->Prop),Inv X pins σ H s->bA v u->t v σ H Q ->
  wpAny (model X.prog X.w) X.A (assign target X.env u) (fun _ s'=>∃σ' H',Inv X pins σ' H' s'/\Q σ' H') X.xe s
def Jz (X:Cx) (ts:List Expr) (t:CH):Prop:=
 ∀(pins:List (Addr×Obj)) (s:Shared) (σ:St) (H:Hp) (vs:List V) (us:List Value) (Q:St->Hp->Prop),Inv X pins σ H s->aS vs us->t vs σ H Q ->
  wpAny (model X.prog X.w) X.A (assignInOrder ((assignEach ts X.env).map (·.2)) us) (fun _ s'=>∃σ' H',Inv X pins σ' H' s'/\Q σ' H') X.xe s
section
variable {X:Cx} {pos:Pos}
def nH (i:Nat):TG:=fun v σ H Q=>Q (σ.set i (some v)) H
theorem Es {i:Nat} {x:Str} (hN:X.N.Nodup) (hi:X.N[i]?=some x) (hx:HU X.env.scope x) (hf:X.fn x=true\/X.env.scope.names.lookup x=some .local:=by first|exact .inl rfl|exact .inr rfl|assumption):PG X (.Name x pos) (nH i):=by
 intro pins s σ H v u Q I r h;exact wpAny_assign_Name (uQ I hN hi hx r (fun s' I'=>⟨_,H,I',h⟩) hf)
def Jr:CH:=fun vs σ H Q=>vs=[]/\Q σ H
def Fo (t:TG) (u:CH):CH:=fun vs σ H Q=>∃v r,vs=v::r/\t v σ H fun σ' H'=>u r σ' H' Q
theorem l6:Jz X [] Jr:=by
 intro pins s σ H vs us Q I r h;obtain ⟨e,h⟩:=h;subst e;cases r;exact assignInOrder_nil ⟨σ,H,I,h⟩
theorem d4 {es:List Expr} {t:TG} {u:CH} (h1:PG X e t) (h2:Jz X es u)
  (hs:(assignEach (e::es) X.env).map (·.2)=assign e X.env::(assignEach es X.env).map (·.2):=by rfl):Jz X (e::es) (Fo t u):=by
 intro pins s σ H vs us Q I r h;obtain ⟨v,vr,e1,h⟩:=h;subst e1;cases r with
 |cons r rr=>
  rw [hs];refine assignInOrder_cons (bX (h1 pins s σ H _ _ _ I r h) fun _ s1 ⟨σ1,H1,I1,q1⟩=>?_);exact h2 pins s1 σ1 H1 _ _ Q I1 rr q1
def Ih (K:Li) (n:Nat) (t:CH):TG:=fun v σ H Q=>∃a xs,v=.ref a/\j8 K H a xs/\xs.length=n/\t xs σ H Q
theorem qf {es:List Expr} {k:Nat} {t:CH} {n:Nat} (hc:X.calm=true) (h:Jz X es t)
  (hn:(assignEach es X.env).length=n:=by rfl) (Nl:(assignEach es X.env).findIdx? (·.1)=none:=by rfl):PG X (.Tuple es k pos) (Ih X.K n t):=by
 intro pins s σ H v u Q I r hw;obtain ⟨a,xs,e1,hq,hl,hw⟩:=hw;subst e1;cases r;obtain ⟨D',rv,ht,hz⟩:=I.tuple hq;refine assign_Tuple_tuple (I.ok.hd hc) ht (by simp [hn,<-hl,rv.length]) Nl fun h' hx=>?_;have I1:Inv X pins σ H { s with heap:=h' }:=I.kept (t':=s.toks) fun b o e=>hx b o (LA (Lc e)) e;exact h pins _ σ H xs _ Q I1 (by simpa using rv) hw
def F9 (te:TE) (g:TG):TS:=fun D σ H=>te σ H fun x H1=>g x σ H1 D.nx
theorem Gm {tg:Expr} {te:TE} {g:TG} (he:PE X e te) (hg:PG X tg g) (hs:swapsWithSole [tg] e pos.line X.env=pure false:=by rfl) (hw:swappedStores [tg] e X.env=pure none:=by rfl)
  (h1:(assignEach [tg] X.env).map (·.2)=[assign tg X.env]:=by rfl):PS X (.Assign [tg] e pos) (F9 te g):=by
 intro pins s σ H D I h;refine wpAny_Assign_stores (bX (he pins s σ H _ I h) fun v s1 ⟨x,H1,I1,r1,q1⟩=>?_) hs hw;rw [h1];exact bX (hg pins s1 σ H1 x v _ I1 r1 q1) fun _ s2 q=>q
theorem AQ {i:Nat} {x:Str} {te:TE} {pos':Pos} (hN:X.N.Nodup) (hi:X.N[i]?=some x) (hx:HU X.env.scope x) (he:PE X e te) (hs:swapsWith e (some (.Name x pos')) pos.line X.env=pure false:=by rfl) (hf:X.fn x=true\/X.env.scope.names.lookup x=some .local:=by first|exact .inl rfl|exact .inr rfl|assumption) :
  PS X (.Assign [.Name x pos'] e pos) (F9 te (nH i)):=by
 intro pins s σ H D I h;refine wpAny_Assign_Name (bX (he pins s σ H _ I h) fun v s1 ⟨y,H1,I1,r1,q1⟩=>?_) hs;exact uQ I1 hN hi hx r1 (fun s2 I2=>⟨_,H1,I2,q1⟩) hf
end
section
variable {X:Cx} {pos:Pos}
def G5 (c:TT) (tb:TS):TS:=fun D σ H=>∃W:Nat->St->Hp->Prop,(∃m,W m σ H)/\∀m σ H,W m σ H ->
 c σ H fun b H1=>if b=true then ∃N:St->Hp->Prop,(∀σ' H',N σ' H'->∃m',m'<m/\W m' σ' H')/\tb { D with nx:=N,ct:=N,bk:=D.nx } σ H1 else D.nx σ H1
theorem BH {c:Expr} {body:List Stmt} {tc:TT} {tb:TS} (hp:PassesOwn (model X.prog X.w) X.A X.env X.xe) (hc:PT X c tc) (hb:qj X body tb):PS X (.While c body [] pos) (G5 tc tb):=by
 intro pins s σ H D I h;obtain ⟨W,⟨m0,w0⟩,turn⟩:=h;refine wpAny_While (codeAny_whileLoop (fun n s'=>∃σ' H',Inv X pins σ' H' s'/\W n σ' H') ?_ m0 ⟨σ,H,I,w0⟩);rintro n s1 ⟨σ1,H1,I1,w1⟩;refine wpAny_passesOwn hp (bX (hc pins s1 σ1 H1 _ I1 (turn n σ1 H1 w1)) fun b s2 ⟨H2,I2,q2⟩=>?_);cases b with
 |true=>
  obtain ⟨N,hN,q2⟩:=q2;rw [if_pos rfl];refine wpAny_passesOwn hp (bX (hb pins s2 σ1 H2 _ I2 q2) fun f s3 q3=>?_);cases f with
  |next=>
   obtain ⟨σ3,H3,I3,n3⟩:=q3;obtain ⟨m',hm,w3⟩:=hN σ3 H3 n3;exact ⟨m',hm,σ3,H3,I3,w3⟩
  |cont=>
   obtain ⟨σ3,H3,I3,n3⟩:=q3;obtain ⟨m',hm,w3⟩:=hN σ3 H3 n3;exact ⟨m',hm,σ3,H3,I3,w3⟩
  |brk=>exact q3
  |ret v=>exact q3
 |false=>
  rw [if_neg Bool.false_ne_true];exact wpAny_execs_nil ⟨σ1,H2,I2,q2⟩
end
structure It where
 go:Nat->Hp->Prop
 yld:Nat->Hp->V->Hp->Prop
 stop:Nat->Hp->Prop
def lM (X:Cx) (pins:List (Addr×Obj)) (H:Hp) (b:Addr):Prop:=
 H b=none/\b≠X.env.locals/\b∉X.fs/\(b∈X.ex\/X.s₀.heap.objs.size<=b)/\(∀x c,X.env.cells.lookup x=some c->c≠b)/\∀p∈X.pn++pins,p.1≠b
variable {pins:List (Addr×Obj)} {σ:St}
theorem Inv.fpOk {H':Hp} (I:Inv X pins σ H s) (hb:s.heap.objs.size<=b) (hn:H' b=none):lM X pins H' b:=by
 refine ⟨hn,Nat.ne_of_gt (Lx I.lt hb),I.nofs hb,.inr (Lw I.sz hb),fun x c e z=>?_,fun p hp z=>?_⟩
 ·obtain ⟨v,q⟩:=I.cell x c e;exact absurd (Lx q.lt (by rw [z]; exact hb)) (Nat.lt_irrefl _)
 ·exact absurd (Lx (Lc (I.pin p hp).1) (by rw [z]; exact hb)) (Nat.lt_irrefl _)
structure Turn (P:Program) (w:World) (K:Li) (tg:Expr) (J:It) (fp:List Addr) (it:Addr) (tn:Nat->Heap->Prop):Prop where
 mem:it∈fp
 obj:∀i h,tn i h->∀b∈fp,∃o,h.get? b=some o/\∀v,o.data≠.cell v
 keep:∀i h h',tn i h->(∀b∈fp,∀o,h.get? b=some o->h'.get? b=some o)->tn i h'
 item:∀(X:Cx),X.prog=P->X.w=w->X.K=K->X.calm=true->∀(i:Nat) (pins:List (Addr×Obj)) (s:Shared) (σ:St) (H:Hp) (E:Value->Shared->Prop),Inv X pins σ H s->(∀b∈fp,lM X pins H b)->tn i s.heap->J.go i H ->
  wpAny (model P w) X.A (pyNext (.ref it)) (fun r s1=>∃u,r=some u /\
   wpAny (model P w) X.A (letOwnedTupleGo tg (.ref it) u) (fun _ s2=>∃x H',Inv X pins σ H' s2/\bA x u/\J.yld i H x H'/\tn (i+1) s2.heap/\∀b∈fp,H' b=none) E s1) E s
 done:∀(X:Cx),X.prog=P->X.w=w->X.K=K->X.calm=true->∀(i:Nat) (pins:List (Addr×Obj)) (s:Shared) (σ:St) (H:Hp) (E:Value->Shared->Prop),Inv X pins σ H s->(∀b∈fp,lM X pins H b)->tn i s.heap->J.stop i H ->
  wpAny (model P w) X.A (pyNext (.ref it)) (fun r s1=>r=none/\Inv X pins σ H s1) E s
 self:∀(A:Around) (i:Nat) (s:Shared) (Q:Value->Shared->Prop) (E:Value->Shared->Prop),tn i s.heap->Q (.ref it) s->wpAny (model P w) A (pyIter (.ref it)) Q E s
abbrev TI:=St->Hp->(It->Hp->Prop)->Prop
def Kn (X:Cx) (pins:List (Addr×Obj)) (σ:St) (tg:Expr) (R:It->Hp->Prop) (itv:Value) (s2:Shared):Prop:=
 ∃(it:Addr) (fp:List Addr) (tn:Nat->Heap->Prop) (J:It) (H':Hp),itv=.ref it/\Inv X pins σ H' s2/\Turn X.prog X.w X.K tg J fp it tn/\tn 0 s2.heap/\(∀b∈fp,lM X pins H' b)/\R J H'
def PI (X:Cx) (tg iter:Expr) (wi:TI):Prop:=
 ∀(pins:List (Addr×Obj)) (s:Shared) (σ:St) (H:Hp) (R:It->Hp->Prop),Inv X pins σ H s->wi σ H R ->
  wpAny (model X.prog X.w) X.A (eval iter X.env) (fun v s1=>wpAny (model X.prog X.w) X.A (pyIter v) (Kn X pins σ tg R) X.xe s1) X.xe s
variable {tg:Expr}
theorem Bf {M:Model} {it:Addr} {o:Obj} {n:String} {vs:Array Value} {Q:Unit->Shared->Prop} (ho:s.heap.get? it=some o) (hc:o.cls=.type n) (hd:o.data=.fields vs)
  (hn:["enumerate", "zip", "dict_itemiterator", "dict_reverseitemiterator", "odict_iterator", "itertools.zip_longest", "itertools.pairwise"].contains n=false) (hQ:Q () s):wpAny M A (letOwnedTupleGo tg (.ref it) u) Q E s:=by
 unfold letOwnedTupleGo;cases tg <;> first
  |exact Lb hQ
  |(cases u <;> first
    |exact Lb hQ
    |(refine La (wpAny_load ho ?_); rw [hc,hd]; show wpAny M A (if (["enumerate", "zip", "dict_itemiterator", "dict_reverseitemiterator", "odict_iterator", "itertools.zip_longest", "itertools.pairwise"].contains n&&vs[0]?==some (rawInt _))=true then _ else _) Q E s; rw [if_neg (by intro h; rw [hn,Bool.false_and] at h; cases h)]; exact Lb hQ))
noncomputable def JS (K:Li) (a:Addr):It:=
 ⟨fun i H=>∃xs x,eN K H a xs/\xs[i]?=some x,fun i H x H'=>H'=H/\∀xs,eN K H a xs->xs[i]?=some x,fun i H=>∃xs,eN K H a xs/\xs.length<=i⟩
noncomputable def JQ (K:Li) (a:Addr):It:=
 ⟨fun i H=>∃xs x,j8 K H a xs/\xs[i]?=some x,fun i H x H'=>H'=H/\∀xs,j8 K H a xs->xs[i]?=some x,fun i H=>∃xs,j8 K H a xs/\xs.length<=i⟩
noncomputable def IK (lo:Int) (n:Nat):It:=⟨fun i _=>i<n,fun i H x H'=>H'=H/\x=.int (lo+i),fun i _=>n<=i⟩
variable {K:Li}
theorem zv (a it:Addr):Turn P w K tg (JS K a) [it] it (fun i h=>h.IsListIter it a i) where
 mem:=by simp
 obj:=fun i h st b hb=>by
  have e:b=it:=by simpa using hb
  subst e;obtain ⟨o,e,c,d⟩:=st;exact ⟨o,e,fun v z=>by rw [d] at z; cases z⟩
 keep:=fun i h h' st k=>st.at fun o e=>k it 0x4 o e
 item:=by
  intro X hP hw hK hc i pins s σ H E I hf st hg;subst hP hw hK;obtain ⟨xs,x,hq,hx⟩:=hg;obtain ⟨D',rv,p,hz⟩:=I.list hq;obtain ⟨u,hu,ru⟩:=rv.get hx;obtain ⟨f0,f1,f2,f3,f4,f5⟩:=hf it 0x4;refine wpAny_pyNext_list_item st p.isList (x:=u) (by simpa using hu) fun h' F' sb=>?_;have I1:Inv X pins σ H { s with heap:=h' }:=I.turned (t':=s.toks) (fun b o hb e=>(sb.2 b hb).trans e) f0 f1 f3 f4 f5;obtain ⟨o,e,c,d⟩:=id F';exact ⟨u,rfl,Bf (s:={ s with heap:=h' }) e c d 0x3 ⟨x,H,I1,ru,⟨rfl,fun ys hy=>by rw [I.list_inj hy hq]; exact hx⟩,F',fun b hb=>(hf b hb).1⟩⟩
 done:=by
  intro X hP hw hK hc i pins s σ H E I hf st hg;subst hP hw hK;obtain ⟨xs,hq,hx⟩:=hg;obtain ⟨D',rv,p,hz⟩:=I.list hq;obtain ⟨f0,f1,f2,f3,f4,f5⟩:=hf it 0x4;have hl:=rv.length;exact wpAny_pyNext_list_end (I.ok.hd hc) st p.isList (by simp; lia) fun h' eb=>⟨rfl,I.turned (t':=s.toks) (fun b o hb e=>eb b o hb e) f0 f1 f3 f4 f5⟩
 self:=fun _ _ _ _ _ st h=>wpAny_pyIter_listiter st h
theorem wL (a it:Addr):Turn P w K tg (JQ K a) [it] it (fun i h=>h.IsTupleIter it a i) where
 mem:=by simp
 obj:=fun i h st b hb=>by
  have e:b=it:=by simpa using hb
  subst e;obtain ⟨o,e,c,d⟩:=st;exact ⟨o,e,fun v z=>by rw [d] at z; cases z⟩
 keep:=fun i h h' st k=>st.at fun o e=>k it 0x4 o e
 item:=by
  intro X hP hw hK hc i pins s σ H E I hf st hg;subst hP hw hK;obtain ⟨xs,x,hq,hx⟩:=hg;obtain ⟨D',rv,p,hz⟩:=I.tuple hq;obtain ⟨u,hu,ru⟩:=rv.get hx;obtain ⟨f0,f1,f2,f3,f4,f5⟩:=hf it 0x4;refine wpAny_pyNext_tuple_item st (show s.heap.IsTuple a D'.toArray from p) (x:=u) (by simpa using hu) fun h' F' sb=>?_;have I1:Inv X pins σ H { s with heap:=h' }:=I.turned (t':=s.toks) (fun b o hb e=>(sb.2 b hb).trans e) f0 f1 f3 f4 f5;obtain ⟨o,e,c,d⟩:=id F';exact ⟨u,rfl,Bf (s:={ s with heap:=h' }) e c d 0x3 ⟨x,H,I1,ru,⟨rfl,fun ys hy=>by rw [I.tuple_inj hy hq]; exact hx⟩,F',fun b hb=>(hf b hb).1⟩⟩
 done:=by
  intro X hP hw hK hc i pins s σ H E I hf st hg;subst hP hw hK;obtain ⟨xs,hq,hx⟩:=hg;obtain ⟨D',rv,p,hz⟩:=I.tuple hq;obtain ⟨f0,f1,f2,f3,f4,f5⟩:=hf it 0x4;have hl:=rv.length;exact wpAny_pyNext_tuple_end (I.ok.hd hc) st (show s.heap.IsTuple a D'.toArray from p) (by simp; lia) fun h' eb=>⟨rfl,I.turned (t':=s.toks) (fun b o hb e=>eb b o hb e) f0 f1 f3 f4 f5⟩
 self:=fun _ _ _ _ _ st h=>wpAny_pyIter_tupleiter st h
theorem vI (it:Addr) (lo:Int) (n:Nat):Turn P w K tg (IK lo n) [it] it (fun i h=>IsRangeIter h it (lo+(i:Nat)*1) ((n:Int)-(i:Nat)) 1) where
 mem:=by simp
 obj:=fun i h st b hb=>by
  have e:b=it:=by simpa using hb
  subst e;exact ⟨_,st,fun v z=>by
   have z':Data.fields _=Data.cell v:=z;cases z'⟩
 keep:=fun i h h' st k=>k it 0x4 _ st
 item:=by
  intro X hP hw hK hc i pins s σ H E I hf st hg;subst hP hw hK;obtain ⟨f0,f1,f2,f3,f4,f5⟩:=hf it 0x4;have W:=Walks.range (prog:=X.prog) (w:=X.w) (I.ok.hd hc) it lo 1 n;refine W.item i s _ _ hg st fun v h' tk hv F' kk=>?_;obtain ⟨t,rfl⟩:=hv;have I1:Inv X pins σ H { s with heap:=h',toks:=tk }:=I.turned (fun b o hb e=>kk b o (by simpa using hb) e) f0 f1 f3 f4 f5;refine ⟨_,rfl,Bf (s:={ s with heap:=h',toks:=tk }) (n:= "range_iterator") F' rfl rfl 0x3 ⟨.int (lo+i),H,I1,⟨t,?_⟩,⟨rfl,rfl⟩,F',fun b hb=>(hf b hb).1⟩⟩;rw [Int.mul_one]
 done:=by
  intro X hP hw hK hc i pins s σ H E I hf st hg;subst hP hw hK;obtain ⟨f0,f1,f2,f3,f4,f5⟩:=hf it 0x4;exact wpAny_pyNext_range_end (I.ok.hd hc) st (by have:n<=i:=hg; lia) fun h' eb=>⟨rfl,I.turned (t':=s.toks) (fun b o hb e=>eb b o hb e) f0 f1 f3 f4 f5⟩
 self:=fun _ _ _ _ _ st h=>wpAny_pyIter_rangeiter st h
section
variable {X:Cx} {tg:Expr}
def Io (K:Li) (tl:TE):TI:=fun σ H R=>tl σ H fun x H1=>∃a,x=.ref a/\(∃xs,eN K H1 a xs)/\R (JS K a) H1
def JY (K:Li) (tl:TE):TI:=fun σ H R=>tl σ H fun x H1=>∃a,x=.ref a/\(∃xs,j8 K H1 a xs)/\R (JQ K a) H1
theorem Fe {l:Expr} {tl:TE} (hl:PE X l tl):PI X tg l (Io X.K tl):=by
 intro pins s σ H R I h;refine bX (hl pins s σ H _ I h) fun v s1 ⟨x,H1,I1,r1,q1⟩=>?_;obtain ⟨a,e,⟨xs,hq⟩,q⟩:=q1;subst e;cases r1;obtain ⟨D',rv,p,hz⟩:=I1.list hq;refine wpAny_pyIter_list p.isList ?_;refine ⟨s1.heap.objs.size,[s1.heap.objs.size],_,_,H1,rfl,I1.kept (t':=s1.toks) fun b o e=>K6 _ e,zv a _,⟨_,LC _ rfl,rfl,rfl⟩,fun b hb=>?_,q⟩;have e:b=s1.heap.objs.size:=by simpa using hb
 subst e;exact I1.fpOk (K9 _) (I1.hok.fresh (K9 _))
theorem HB {l:Expr} {tl:TE} (hl:PE X l tl):PI X tg l (JY X.K tl):=by
 intro pins s σ H R I h;refine bX (hl pins s σ H _ I h) fun v s1 ⟨x,H1,I1,r1,q1⟩=>?_;obtain ⟨a,e,⟨xs,hq⟩,q⟩:=q1;subst e;cases r1;obtain ⟨D',rv,p,hz⟩:=I1.tuple hq;refine wpAny_pyIter_tuple (show s1.heap.IsTuple a D'.toArray from p) ?_;refine ⟨s1.heap.objs.size,[s1.heap.objs.size],_,_,H1,rfl,I1.kept (t':=s1.toks) fun b o e=>K6 _ e,wL a _,⟨_,LC _ rfl,rfl,rfl⟩,fun b hb=>?_,q⟩;have e:b=s1.heap.objs.size:=by simpa using hb
 subst e;exact I1.fpOk (K9 _) (I1.hok.fresh (K9 _))
theorem uH {R:It->Hp->Prop} {lo hi:Int} {t u v:Tok} {tk:Nat} (I:Inv X pins σ H s) (h1:-(2 ^ 62)<=lo) (h2:lo<2 ^ 62) (h3:-(2 ^ 62)<=hi) (h4:hi<2 ^ 62)
  (q:R (IK lo (hi-lo).toNat) H):wpAny (model X.prog X.w) X.A (pyIter (.ref s.heap.objs.size)) (Kn X pins σ tg R) E { s with heap:=s.heap.push { cls:=.type "range",data:=.fields #[.int lo t,.int hi u,.int 1 v] },toks:=tk }:=by
 refine wpAny_pyIter_range (IsRange.new ..) (small_one h1 h2 h3 h4) ?_;have I1:Inv X pins σ H { s with heap:=s.heap.push { cls:=.type "range",data:=.fields #[.int lo t,.int hi u,.int 1 v] },toks:=tk }:=I.kept fun b o e=>K6 _ e;refine ⟨(s.heap.push { cls:=.type "range",data:=.fields #[.int lo t,.int hi u,.int 1 v] }).objs.size,[(s.heap.push { cls:=.type "range",data:=.fields #[.int lo t,.int hi u,.int 1 v] }).objs.size],_,_,H,rfl,
  I1.kept (t':=tk) fun b o e=>K6 _ e,vI _ lo (hi-lo).toNat,?_,fun b hb=>?_,q⟩
 ·have e1:lo+((0:Nat):Int)*1=lo:=by simp
  have e2:(((hi-lo).toNat:Nat):Int)-((0:Nat):Int)=Builtin.Range.rangeSize lo hi 1:=by rw [rangeSize_one]; split <;> lia
  show IsRangeIter _ _ (lo+((0:Nat):Int)*1) ((((hi-lo).toNat:Nat):Int)-((0:Nat):Int)) 1;rw [e1,e2];exact LC _ rfl
 ·have e:b=(s.heap.push { cls:=.type "range",data:=.fields #[.int lo t,.int hi u,.int 1 v] }).objs.size:=by simpa using hb
  subst e;exact I1.fpOk (K9 _) (I1.hok.fresh (K9 _))
def Jw (ta:TA):TI:=fun σ H R=>ta σ H fun vs H1=>∃j:Int,vs=[.int j]/\-(2 ^ 62)<=j/\j<2 ^ 62/\R (IK 0 j.toNat) H1
def Ii (ta:TA):TI:=fun σ H R=>ta σ H fun vs H1=>∃i j:Int,vs=[.int i,.int j]/\(-(2 ^ 62)<=i/\i<2 ^ 62/\-(2 ^ 62)<=j/\j<2 ^ 62)/\R (IK i (j-i).toNat) H1
variable {pos:Pos}
theorem yZ {a:Expr} {ta:TA} {p:Pos} (hg:Gl X "range") (hm:X.mg "range" = none) (ha:PA X [a] ta) (hs:starEach [a] X.env=[(false,eval a X.env)]:=by rfl):PI X tg (.Call (.Name "range" p) [a] [] pos) (Jw ta):=by
 intro pins s σ H R I h;refine Call_ (kM I hg hm boot_range (PyProof.Rows.callWith_type1 (bX (ha pos pins s σ H _ I h) fun us s1 ⟨vs,H1,I1,r1,q1⟩=>?_) hs rfl));obtain ⟨j,e,q1,q2,q⟩:=q1;subst e;cases r1 with
 |cons r rr=>
  cases rr;obtain ⟨t,rfl⟩:=r;exact call_range_1 (uH I1 0x1 0x1 q1 q2 (by simpa using q))
theorem zJ {a b:Expr} {ta:TA} {p:Pos} (hg:Gl X "range") (hm:X.mg "range" = none) (ha:PA X [a,b] ta) (hs:starEach [a,b] X.env=[(false,eval a X.env),(false,eval b X.env)]:=by rfl) (M6:starEach [b] X.env=[(false,eval b X.env)]:=by rfl) :
  PI X tg (.Call (.Name "range" p) [a,b] [] pos) (Ii ta):=by
 intro pins s σ H R I h;refine Call_ (kM I hg hm boot_range (PyProof.Rows.callWith_type1 (bX (ha pos pins s σ H _ I h) fun us s1 ⟨vs,H1,I1,r1,q1⟩=>?_) (by rw [hs,M6]) (by rw [M6]; rfl)));obtain ⟨i,j,e,⟨q1,q2,q3,q4⟩,q⟩:=q1;subst e;cases r1 with
 |cons r rr=>
  cases rr with
  |cons r' rr=>
   cases rr;obtain ⟨t,rfl⟩:=r;obtain ⟨t',rfl⟩:=r';exact call_range_2 (uH I1 q1 q2 q3 q4 q)
def J8 (wi:TI) (g:TG) (tb:TS):TS:=fun D σ H=>wi σ H fun J H1=>∃W:Nat->Nat->St->Hp->Prop,(∃m,W 0 m σ H1)/\∀i m σ H,W i m σ H ->
 (J.stop i H/\D.nx σ H)\/(J.go i H/\∃N:St->Hp->Prop,(∀σ' H',N σ' H'->∃m',m'<m/\W (i+1) m' σ' H')/\∀x H',J.yld i H x H'->g x σ H' fun σ2 H2=>tb { D with nx:=N,ct:=N,bk:=D.nx } σ2 H2)
noncomputable def mL (fp:List Addr) (h:Heap):List (Addr×Obj):=fp.filterMap fun b=>(h.get? b).map fun o=>(b,o)
variable {fp:List Addr}
theorem i5 {o:Obj} (hb:b∈fp) (e:h.get? b=some o):(b,o)∈mL fp h:=List.mem_filterMap.mpr ⟨b,hb,by rw [e]; rfl⟩
theorem zj {p:Addr×Obj} (hp:p∈mL fp h):p.1∈fp/\h.get? p.1=some p.2:=by
 obtain ⟨b,hb,e⟩:=List.mem_filterMap.mp hp;cases q:h.get? b with
 |none=>rw [q] at e; cases e
 |some o=>
  rw [q] at e;have e':(b,o)=p:=LD e;subst e';exact ⟨hb,q⟩
theorem Inv.pinned (I:Inv X pins σ H s) (hf:∀b∈fp,lM X pins H b) (ho:∀b∈fp,∃o,s.heap.get? b=some o/\∀v,o.data≠.cell v):Inv X (pins++mL fp s.heap) σ H s:=
 I.pins_of fun p hp=>(Lk.mp hp).elim (fun z=>I.pin p (K7 _ z)) fun z=>by
  obtain ⟨hb,e⟩:=zj z;obtain ⟨f0,f1,f2,_⟩:=hf p.1 hb;obtain ⟨o,e',d⟩:=ho p.1 hb;rw [e] at e'; cases e'
  exact ⟨e,f0,f1,f2,d⟩
theorem Inv.unpinned {pl:List (Addr×Obj)} (I:Inv X (pins++pl) σ H s):Inv X pins σ H s:=I.pins_of fun p hp=>I.pin p (K7 _ (K8 _ hp))
theorem tO {iter:Expr} {body:List Stmt} {wi:TI} {g:TG} {tb:TS} (hp:PassesOwn (model X.prog X.w) X.A X.env X.xe) (hc:X.calm=true) (hi:PI X tg iter wi) (hg:PG X tg g) (hb:qj X body tb)
  (hs:∀x,foldedSetIterable iter X.env x=pure x:=by intro _; rfl):PS X (.For tg iter body [] pos) (J8 wi g tb):=by
 intro pins s σ H D I h;refine wpAny_For (bX (hi pins s σ H _ I h) fun v s1 h1=>bX h1 fun itv s2 h2=>?_) hs;obtain ⟨it,fp,tn,J,H2,e,I2,T,LP,f2,W,⟨m0,w0⟩,turn⟩:=h2;subst e;have Mx:∀{H':Hp},(∀b∈fp,H' b=none)->∀b∈fp,lM X pins H' b:=fun hn b hb=>⟨hn b hb,(f2 b hb).2⟩;refine codeAny_forLoop_any (fun n s'=>∃i σ' H',Inv X pins σ' H' s'/\tn i s'.heap/\(∀b∈fp,H' b=none)/\W i n σ' H') ?_ m0 ⟨0,σ,H2,I2,LP,fun b hb=>(f2 b hb).1,w0⟩;rintro n s3 ⟨i,σ3,H3,I3,Mf,fr3,w3⟩;rcases turn i n σ3 H3 w3 with ⟨stop,qn⟩|⟨go,N,hN,step⟩
 ·refine wpAny_passesOwn hp (bX (T.done X rfl rfl rfl hc i pins s3 σ3 H3 X.xe I3 (Mx fr3) Mf stop) fun r s4 ⟨hr,I4⟩=>?_);subst hr;exact wpAny_execs_nil ⟨σ3,H3,I4,qn⟩
 ·refine wpAny_passesOwn hp (bX (T.item X rfl rfl rfl hc i pins s3 σ3 H3 X.xe I3 (Mx fr3) Mf go) fun r s4 ⟨u,hr,h4⟩=>?_);subst hr;refine wpAny_passesOwn hp (bX h4 fun _ s5 ⟨x,H5,I5,r5,y5,Nz,fr5⟩=>?_);have I5':=I5.pinned (Mx fr5) (T.obj _ _ Nz);refine wpAny_passesOwn hp (bX (hg _ s5 σ3 H5 x u _ I5' r5 (step x H5 y5)) fun _ s6 ⟨σ6,H6,I6,q6⟩=>?_);refine wpAny_passesOwn hp (bX (hb _ s6 σ6 H6 _ I6 q6) fun f s7 q7=>?_);have again:∀{σ7:St} {H7:Hp},Inv X (pins++mL fp s5.heap) σ7 H7 s7->N σ7 H7->∃m,m<n/\∃i σ' H',Inv X pins σ' H' s7/\tn i s7.heap/\(∀b∈fp,H' b=none)/\W i m σ' H':=fun {σ7 H7} I7 n7=>by
   obtain ⟨m',hm,w7⟩:=hN σ7 H7 n7;refine ⟨m',hm,i+1,σ7,H7,I7.unpinned,T.keep _ _ _ Nz fun b hb o e=>(I7.pin (b,o) (K7 _ (K7 _ (i5 hb e)))).1,fun b hb=>?_,w7⟩;obtain ⟨o,e,d⟩:=T.obj _ _ Nz b hb;exact (I7.pin (b,o) (K7 _ (K7 _ (i5 hb e)))).2.1
  cases f with
  |next=>obtain ⟨σ7,H7,I7,n7⟩:=q7; exact again I7 n7
  |cont=>obtain ⟨σ7,H7,I7,n7⟩:=q7; exact again I7 n7
  |brk=>obtain ⟨σ7,H7,I7,q7⟩:=q7; exact ⟨σ7,H7,I7.unpinned,q7⟩
  |ret v=>obtain ⟨x7,σ7,H7,I7,r7,q7⟩:=q7; exact ⟨x7,σ7,H7,I7.unpinned,r7,q7⟩
end
abbrev R2:=V->V->Hp->VK->Prop
def qO (X:Cx) (f:Value->Value->Sem Value) (r:R2):Prop:=
 ∀(pins:List (Addr×Obj)) (s:Shared) (σ:St) (H:Hp) (x y:V) (v u:Value) (Q:VK),Inv X pins σ H s->bA x v->bA y u->r x y H Q ->
  wpAny (model X.prog X.w) X.A (f v u) (EP X pins σ Q) X.xe s
def lA (X:Cx) (f:Value) (r:List V->Hp->VK->Prop):Prop:=
 ∀(pins:List (Addr×Obj)) (s:Shared) (σ:St) (H:Hp) (xs:List V) (us:List Value) (Q:VK),Inv X pins σ H s->aS xs us->r xs H Q ->
  wpAny (model X.prog X.w) X.A (call f us) (EP X pins σ Q) X.xe s
def JR (X:Cx) (r:V->Hp->(Bool->Hp->Prop)->Prop):Prop:=
 ∀(pins:List (Addr×Obj)) (s:Shared) (σ:St) (H:Hp) (x:V) (v:Value) (Q:Bool->Hp->Prop),Inv X pins σ H s->bA x v->r x H Q ->
  wpAny (model X.prog X.w) X.A (truthy v) (TP X pins σ Q) X.xe s
def JI (r:R2) (ta tb:TE):TE:=fun σ H Q=>ta σ H fun x H1=>tb σ H1 fun y H2=>r x y H2 Q
noncomputable def rI (C:Int->Int->Prop) (g:Int->Int->V):R2:=fun x y H Q=>∃i j,x=.int i/\y=.int j/\C i j/\Q (g i j) H
noncomputable def EU (g:Int->Int->V):R2:=fun x y H Q=>∃i j,x=.int i/\y=.int j/\Q (g i j) H
section
variable {X:Cx} {a b c:Expr} {ta tb tc:TE} {pos:Pos}
variable {f:Value->Value->Sem Value}
theorem Kg (ha:PE X a ta) (hb:PE X b tb) {R:V->V->Hp->Prop} (I:Inv X pins σ H s)
  (h:ta σ H fun x H1=>tb σ H1 fun y H2=>R x y H2) {Q:Value->Shared->Prop} 
  (hf:∀v u s2 x y H2,Inv X pins σ H2 s2->bA x v->bA y u->R x y H2->wpAny (model X.prog X.w) X.A (f v u) Q X.xe s2) :
  wpAny (model X.prog X.w) X.A (eval a X.env) (fun v s₁=>wpAny (model X.prog X.w) X.A (eval b X.env) (fun u s₂=>wpAny (model X.prog X.w) X.A (f v u) Q X.xe s₂) X.xe s₁) X.xe s:=by
 refine bX (ha pins s σ H _ I h) fun v s1 ⟨x,H1,I1,r1,q1⟩=>?_;refine bX (hb pins s1 σ H1 _ I1 q1) fun u s2 ⟨y,H2,I2,r2,q2⟩=>?_;exact hf v u s2 x y H2 I2 r1 r2 q2
theorem Kh {C:Int->Int->Prop} {g:Int->Int->Int}
  (rule:∀(i j:Int) (t u:Tok) (s:Shared) (Q:Value->Shared->Prop) (E:Value->Shared->Prop),C i j->Q (.int (g i j) s.toks) { s with toks:=s.toks+1 }->wpAny (model X.prog X.w) X.A (f (.int i t) (.int j u)) Q E s) :
  qO X f (rI C fun i j=>.int (g i j)):=by
 intro pins s σ H x y v u Q I rx ry h;obtain ⟨i,j,rfl,rfl,hc,q⟩:=h;obtain ⟨t,rfl⟩:=rx;obtain ⟨t',rfl⟩:=ry;exact rule i j t t' s _ _ hc ⟨.int (g i j),H,I.tok _,⟨_,rfl⟩,q⟩
theorem Ju {g:Int->Int->Int}
  (rule:∀(i j:Int) (t u:Tok) (s:Shared) (Q:Value->Shared->Prop) (E:Value->Shared->Prop),Q (.int (g i j) s.toks) { s with toks:=s.toks+1 }->wpAny (model X.prog X.w) X.A (f (.int i t) (.int j u)) Q E s) :
  qO X f (EU fun i j=>.int (g i j)):=by
 intro pins s σ H x y v u Q I rx ry h;obtain ⟨i,j,rfl,rfl,q⟩:=h;obtain ⟨t,rfl⟩:=rx;obtain ⟨t',rfl⟩:=ry;exact rule i j t t' s _ _ ⟨.int (g i j),H,I.tok _,⟨_,rfl⟩,q⟩
theorem DR {g:Int->Int->Bool}
  (rule:∀(i j:Int) (t u:Tok) (s:Shared) (Q:Value->Shared->Prop) (E:Value->Shared->Prop),Q (.bool (g i j)) s->wpAny (model X.prog X.w) X.A (f (.int i t) (.int j u)) Q E s) :
  qO X f (EU fun i j=>.bl (g i j)):=by
 intro pins s σ H x y v u Q I rx ry h;obtain ⟨i,j,rfl,rfl,q⟩:=h;obtain ⟨t,rfl⟩:=rx;obtain ⟨t',rfl⟩:=ry;exact rule i j t t' s _ _ ⟨.bl (g i j),H,I,rfl,q⟩
def IL (i j:Int):Prop:=0<j/\j<1073741824
def CY (i j:Int):Prop:=(-(2 ^ 64)<i/\i<2 ^ 64)\/(-(2 ^ 64)<j/\j<2 ^ 64)
theorem CY.ok {i j:Int} (h:CY i j):IntMulOk i j:=by
 rcases h with ⟨h1,h2⟩|⟨h1,h2⟩
 ·exact .of_left (intBits_le_64 h1 h2)
 ·exact .of_right (intBits_le_64 h1 h2)
theorem Gw:qO X (binaryOp .Add) (EU fun i j=>.int (i+j)):=Ju fun _ _ _ _ _ _ _ q=>add_int q
theorem GI:qO X (binaryOp .Sub) (EU fun i j=>.int (i-j)):=Ju fun _ _ _ _ _ _ _ q=>sub_int q
theorem GL:qO X (binaryOp .Mult) (rI CY fun i j=>.int (i*j)):=Kh fun _ _ _ _ _ _ _ hc q=>mul_int q hc.ok
theorem CV:qO X (binaryOp .FloorDiv) (rI IL fun i j=>.int (i / j)):=Kh fun i j _ _ _ _ _ hc q=>by
 have h1:(0:Int)<j:=hc.1;have h2:j<1073741824:=hc.2;exact floordiv_int 0x1 (by rw [Int.fdiv_eq_ediv_of_nonneg i 0x1]; exact q) (.inl (PyProof.noPylong_small 0x1))
theorem Ht:qO X (binaryOp .Mod) (rI (fun _ j=>0<j) fun i j=>.int (i % j)):=Kh fun i j _ _ _ _ _ hc q=>by
 have h1:(0:Int)<j:=hc;exact mod_int' 0x1 (by rw [Int.fmod_eq_emod_of_nonneg i 0x1]; exact q)
end
section
variable {X:Cx} {a b c:Expr} {ta tb tc:TE} {pos:Pos}
theorem IJ:qO X (compareOp .Lt) (EU fun i j=>.bl (decide (i<j))):=DR fun _ _ _ _ _ _ _ q=>lt_int q
theorem IP:qO X (compareOp .LtE) (EU fun i j=>.bl (decide (i<=j))):=DR fun _ _ _ _ _ _ _ q=>le_int q
theorem Jc:qO X (compareOp .Gt) (EU fun i j=>.bl (decide (j<i))):=DR fun _ _ _ _ _ _ _ q=>gt_int q
theorem Im:qO X (compareOp .GtE) (EU fun i j=>.bl (decide (j<=i))):=DR fun _ _ _ _ _ _ _ q=>ge_int q
theorem wF (b:Expr) {op:CmpOp} (h:op≠.In:=by decide) (h2:op≠.NotIn:=by decide):behindInMarks op b=false:=by
 have e1:(op==CmpOp.In)=false:=by cases op <;> first|rfl|exact absurd rfl h
 have e2:(op==CmpOp.NotIn)=false:=by cases op <;> first|rfl|exact absurd rfl h2
 cases b <;> simp [behindInMarks,e1,e2]
def Iz (t:TE):TT:=fun σ H Q=>t σ H fun x H'=>∃k,x=.bl k/\Q k H'
theorem Di {op:CmpOp} {r:R2} (ho:qO X (compareOp op) r) (ha:PE X a ta) (hb:PE X b tb) (hm:behindInMarks op b=false):PT X (.Compare a [op] [b] pos) (Iz (JI r ta tb)):=by
 intro pins s σ H Q I h;refine wpAny_isTrue_Compare1 (bX (ha pins s σ H _ I h) fun v s1 ⟨x,H1,I1,r1,q1⟩=>bX (hb pins s1 σ H1 _ I1 q1) fun u s2 ⟨y,H2,I2,r2,q2⟩=>
  bX (ho pins s2 σ H2 x y v u _ I2 r1 r2 q2) fun c s3 ⟨z,H3,I3,r3,k,e,q3⟩=>?_) hm
 subst e;cases r3;exact wpAny_truthy_bool ⟨H3,I3,q3⟩
def IY (K:Li) (x:V) (H:Hp) (k:Bool):Prop:=
 match x with
 |.non=>k=false
 |.bl b=>k=b
 |.int i=>k=(i != 0)
 |.str y=>y.length<=sizeLine/\k=((y.length:Int) != 0)
 |.byt y=>y.size<=sizeLine/\k=((y.size:Int) != 0)
 |.ref p=>(∃xs,eN K H p xs/\k=!xs.isEmpty)\/(∃xs,j8 K H p xs/\k=!xs.isEmpty)\/∃kvs,H p=some (.dK kvs)/\k=!kvs.isEmpty
 |_=>False
theorem vN {κ:Type} {kvs:List (κ×V)} {vs:List (κ×Value)} (r:KV kvs vs):(!vs.isEmpty)=!kvs.isEmpty:=by
 cases r <;> rfl
theorem pG {xs:List V} {D':List Value} (r:aS xs D'):(!D'.toArray.isEmpty)=!xs.isEmpty:=by
 cases r <;> simp
theorem oS:(sizeLine:Nat)<2 ^ 63:=by rw [sizeLine_eq]; decide
theorem G3:JR X (fun x H Q=>∃k,IY X.K x H k/\Q k H):=by
 intro pins s σ H x v Q I rx h;obtain ⟨k,e,q⟩:=h;have hl:=oS;have hs:sizeLine=16777216:=sizeLine_eq;cases x with
 |non=>
  cases rx;have e':k=false:=e;subst e';exact truthy_none ⟨H,I,q⟩
 |bl b=>
  cases rx;have e':k=b:=e;subst e';exact wpAny_truthy_bool ⟨H,I,q⟩
 |int i=>
  obtain ⟨t,rfl⟩:=rx;have e':k=(i != 0):=e;subst e';exact PySem.P.truthy_int ⟨H,I,q⟩
 |str y=>
  obtain ⟨t,rfl⟩:=rx;obtain ⟨hy,e'⟩:y.length<=sizeLine/\k=((y.length:Int) != 0):=e;subst e';exact PySem.P.truthy_str 0x1 ⟨H,I.tok _,q⟩
 |byt y=>
  obtain ⟨t,rfl⟩:=rx;obtain ⟨hy,e'⟩:y.size<=sizeLine/\k=((y.size:Int) != 0):=e;subst e';exact PySem.W.truthy_bytes 0x1 ⟨H,I.tok _,q⟩
 |ref p=>
  cases rx;have e':(∃xs,eN X.K H p xs/\k=!xs.isEmpty)\/(∃xs,j8 X.K H p xs/\k=!xs.isEmpty)\/∃kvs,H p=some (.dK kvs)/\k=!kvs.isEmpty:=e;rcases e' with ⟨xs,hx,e'⟩|⟨xs,hx,e'⟩|⟨kvs,hx,e'⟩
  ·subst e';obtain ⟨D',r,pl,hz⟩:=I.list hx;have hlen:=r.length;exact wpAny_truthy_list pl.isList (by simp only [List.size_toArray]; lia) ⟨H,I.tok _,by rw [pG r]; exact q⟩
  ·subst e';obtain ⟨D',r,pl,hz⟩:=I.tuple hx;have hlen:=r.length;exact truthy_tuple pl (by simp only [List.size_toArray]; lia) ⟨H,I.tok _,by rw [pG r]; exact q⟩
  ·subst e';obtain ⟨hz,hS,vs,r,m⟩:kvs.length<=sizeLine/\(p==sysModules)=false/\∃vs,KV kvs vs/\s.heap.DictOf (tH X.prog X.w) p vs:=I.hok p _ hx;have hlen:kvs.length=vs.length:=Paired.length r;exact wpAny_truthy_dict hS m 0x1 ⟨H,I.tok _,by rw [vN r]; exact q⟩
 |_=>exact (show False from e).elim
theorem Bz (ha:PE X a ta) (he:∀whole,isTrue a X.env whole=(do let v <-whole; standAt a.pos; holding [v] (truthy v))) :
  PT X a (fun σ H Q=>ta σ H fun x H'=>∃k,IY X.K x H' k/\Q k H'):=by
 intro pins s σ H Q I h;exact isTrue_plain (bX (ha pins s σ H _ I h) fun v s1 ⟨x,H1,I1,r1,q1⟩=>G3 pins s1 σ H1 x v Q I1 r1 q1) (he _)
theorem pM {x:V} {us:List Value} (r:aS [x] us):∃u,us=[u]/\bA x u:=by
 cases r with
 |cons r1 r2=>cases r2; exact ⟨_,rfl,r1⟩
theorem IX {x y:V} {us:List Value} (r:aS [x,y] us):∃u w',us=[u,w']/\bA x u/\bA y w':=by
 cases r with
 |cons r1 r2=>
  cases r2 with
  |cons r3 r4=>cases r4; exact ⟨_,_,rfl,r1,r3⟩
theorem zF (hc:X.calm=true):lA X (.builtin "min") (fun xs H Q=>∃i j,xs=[.int i,.int j]/\Q (.int (if j<i then j else i)) H):=by
 intro pins s σ H xs us Q I r h;obtain ⟨i,j,rfl,q⟩:=h;obtain ⟨u,w',rfl,⟨t,rfl⟩,⟨t',rfl⟩⟩:=IX r;refine min_two_ints (I.ok.hd hc) fun h' tk k=>⟨_,H,I.kept k,?_,q⟩;by_cases hj:j<i
 ·rw [if_pos hj,if_pos hj]; exact ⟨_,rfl⟩
 ·rw [if_neg hj,if_neg hj]; exact ⟨_,rfl⟩
theorem zu:lA X (.type "int") (fun xs H Q=>(∃i,xs=[.int i]/\Q (.int i) H)\/∃k,xs=[.bl k]/\Q (.int (if k then 1 else 0)) H):=by
 intro pins s σ H xs us Q I r h;rcases h with ⟨i,rfl,q⟩|⟨k,rfl,q⟩
 ·obtain ⟨u,rfl,t,rfl⟩:=pM r;exact call_int_int ⟨.int i,H,I,⟨_,rfl⟩,q⟩
 ·obtain ⟨u,rfl,r1⟩:=pM r;cases r1;exact call_int_bool ⟨.int (if k then 1 else 0),H,I.tok _,⟨_,rfl⟩,q⟩
end
structure ObjM (h:Heap) (x dx C:Addr) (mA:Str->Option Value):Prop where
 obj:h.get? x=some (PySem.W.instObj C dx)
 ns:h.Ns1 dx mA
 ne:dx≠x
theorem zw {dx:Addr} {mA:Str->Option Value} (n:h.Ns1 dx mA):∃od,h.get? dx=some od/\∀name,PySem.W.lookIn name od=some (mA name):=by
 obtain ⟨o,es,ep,ho,hd,hk,_,hm⟩:=n;refine ⟨o,ho,fun name=>?_⟩;have e:=hm name;unfold nsFind findBy at e;rw [<-Array.find?_toList] at e;unfold PySem.W.lookIn;rw [hd];dsimp only;split
 ·rename_i y q;rw [q] at e;exact congrArg some e
 ·rename_i q;rw [q] at e;have a:es.toList.any (·.refKey)=false:=by
   rw [List.any_eq_false];intro y hy;obtain ⟨z,t,MR⟩:=hk y (Array.mem_toList_iff.mp hy);simp [DictEntry.refKey,MR]
  have a':¬es.toList.any (·.refKey)=true:=by rw [a]; exact Bool.false_ne_true
  rw [if_neg a'];exact congrArg some e
variable {C:Addr}
theorem ObjM.look {x dx:Addr} {mA:Str->Option Value} (I:ObjM h x dx C mA):∃od,PySem.W.InstAt h x (PySem.W.instObj C dx) C (some od)/\∀name,PySem.W.lookIn name od=some (mA name):=
 let ⟨od,ho,hl⟩:=zw I.ns
 ⟨od,⟨I.obj,rfl,rfl,ho⟩,hl⟩
section
variable {prog:Program} {w:World} {A:Around} {E:Value->Shared->Prop} {s:Shared} {K:Li} {x dx C f:Addr} {mA:Str->Option Value} {name:Str} {v:Value}
theorem Eb {expr:Bool} {Q:Value->Shared->Prop} (X:K.In s.heap) (I:ObjM s.heap x dx C mA) (hg:PySem.W.plainGet K C name=true) (hh:PySem.W.hasDictIn K C=true)
  (ha:PySem.W.findIn K (.ref C) name=some none) (hv:mA name=some v) (NI:PySem.W.handedIn v=true) (h:Q v { s with toks:=s.toks+1 }) :
  wpAny (model prog w) A (getAttr (.ref x) name expr) Q E s:=by
 obtain ⟨od,J,hl⟩:=I.look;exact PySem.W.get_value X J (PySem.W.plainGet_of hg).1 (PySem.W.findObj_own hh ha rfl (by rw [hl,hv])) NI h
theorem BM {pl:Sem Bool} {Q:Value×List Value->Shared->Prop} (X:K.In s.heap) (I:ObjM s.heap x dx C mA) (hg:PySem.W.plainGet K C name=true)
  (hf:PySem.W.findIn K (.ref C) name=some (some (.ref f))) (ht:PySem.W.isFn K (.ref f)=true) (hv:mA name=none) (h:Q (.ref f,[.ref x]) s) :
  wpAny (model prog w) A (getMethod (.ref x) name pl) Q E s:=by
 obtain ⟨od,J,hl⟩:=I.look;exact PySem.W.method_fn X J (PySem.W.plainGet_of hg).1 (PySem.W.plainGet_of hg).2 hf (beq_iff_eq.mp ht) (by show (PySem.W.lookIn name od).map (·.isSome)=some false; rw [hl,hv]; rfl) h
theorem E1 {ns:List Str} {Q:Unit->Shared->Prop} (X:K.In s.heap) (I:ObjM s.heap x dx C mA)
  (hs:PySem.W.findIn K (.ref C) "__setattr__" = some (some (.builtin "object.__setattr__"))) (hp:PySem.W.plainOver K C=true) (ht:PySem.W.takerIn K C name=some none) (hh:PySem.W.hasDictIn K C=true)
  (hw:PySem.Within mA ns) (hsz:ns.length<=sizeLine)
  (h:∀h',ObjM h' x dx C (fun y=>if y=name then some v else mA y)->Heap.SameBut dx s.heap h'->Q () { s with heap:=h',toks:=s.toks+2 }) :
  wpAny (model prog w) A (setAttr (.ref x) name v) Q E s:=by
 obtain ⟨od,J,hl⟩:=I.look;refine PySem.W.set_plain X J hs (PySem.W.osa_open (s:={ s with toks:=s.toks+1 }) (r:=none) X J hp ht fun b=>?_);obtain ⟨cd,hc,Nf⟩:=PySem.W.any_some hh;have hx:s.heap.get? x=some ⟨.ref C,some dx,.plain,#[]⟩:=I.obj;refine La (Lb (La (La (wpAny_loadPart hx (La (PySem.W.Looks.here (s:={ s with toks:=s.toks+1 }) (PySem.W.looks_clsIn X hc) ?_))))));rw [Nf];refine Lb (a:=some dx) (La (Lb (La ?_)));refine wpAny_nsSet1 (s:={ s with toks:=s.toks+1 }) I.ns fun h' hn2 M6=>?_;obtain ⟨oD,esD,epD,hoD,hdD,hcD⟩:=hn2.count (PySem.Within.cons name v hw);refine La (wpAny_lookBehind hoD (by rw [hdD]; exact pastItsLine_dict (Lw hcD (by rw [List.length_cons]; lia))) ?_);exact Lb (h _ ⟨(M6.2 _ (Ne.symm I.ne)).trans I.obj,hn2,I.ne⟩ M6)
theorem AF {R:Result->Shared->Prop} {vs:List Value} {kw:List (Str×Value)} (X:K.In s.heap) (hm:PySem.W.makesIn K C=true)
  (hi:PySem.W.findIn K (.ref C) "__init__" = some (some (.ref f))) (hf:PySem.W.typeIn K (.ref f)=some (.type "function"))
  (h:codeAny (model prog w) (A.under (.builtin "type.__call__" ⟨.ref C::vs,kw⟩)) (.call (.ref f) ⟨.ref (s.heap.objs.size+1)::vs,kw⟩) (PySem.W.InitBack (s.heap.objs.size+1) R)
   { s with heap:=(s.heap.push PySem.W.emptyDict).push (PySem.W.instObj C s.heap.objs.size) }) :
  codeAny (model prog w) A (.call (.ref C) ⟨vs,kw⟩) R s:=by
 obtain ⟨hh,g,d,t,os⟩:=s;exact PySem.W.make_core (PySem.W.makes_of X hm) (PySem.W.looks_findIn X hi) (fun self=>PySem.W.bind_fn X self hf) (.inl rfl) h
end
noncomputable def f9 (f:Str) (v:V):List (Str×V)->List (Str×V)
 |[]=>[(f,v)]
 |(g,x)::r=>if g=f then (g,v)::r else (g,x)::f9 f v r
theorem nu (f g:Str) (v:V):∀fs:List (Str×V),(f9 f v fs).lookup g=if g=f then some v else fs.lookup g
 |[]=>by
  show List.lookup g [(f,v)]=_;by_cases h:g=f
  ·have hb:(g==f)=true:=beq_iff_eq.mpr h;simp only [List.lookup,hb,if_pos h]
  ·have hb:(g==f)=false:=beq_eq_false_iff_ne.mpr h;simp only [List.lookup,hb,if_neg h]
 |(k,x)::r=>by
  have ih:=nu f g v r;rw [show f9 f v ((k,x)::r)=(if k=f then (k,v)::r else (k,x)::f9 f v r) from rfl];by_cases hk:k=f
  ·rw [if_pos hk];by_cases h:g=k
   ·have hb:(g==k)=true:=beq_iff_eq.mpr h;simp only [List.lookup,hb,if_pos (h.trans hk)]
   ·have hb:(g==k)=false:=beq_eq_false_iff_ne.mpr h;simp only [List.lookup,hb,if_neg (fun e:g=f=>h (e.trans hk.symm))]
  ·rw [if_neg hk];by_cases h:g=k
   ·have hb:(g==k)=true:=beq_iff_eq.mpr h;simp only [List.lookup,hb,if_neg (fun e:g=f=>hk (h.symm.trans e))]
   ·have hb:(g==k)=false:=beq_eq_false_iff_ne.mpr h;simp only [List.lookup,hb];exact ih
theorem mH (f:Str) (v:V):∀fs:List (Str×V),f∈(f9 f v fs).map (·.1)/\∀g,g∈fs.map (·.1)->g∈(f9 f v fs).map (·.1)
 |[]=>⟨by simp [f9],fun g h=>by simp at h⟩
 |(k,x)::r=>by
  obtain ⟨i1,i2⟩:=mH f v r;rw [show f9 f v ((k,x)::r)=(if k=f then (k,v)::r else (k,x)::f9 f v r) from rfl];by_cases hk:k=f
  ·rw [if_pos hk];subst hk;exact ⟨0x4,fun g h=>by simpa using h⟩
  ·rw [if_neg hk];refine ⟨?_,fun g h=>?_⟩
   ·rw [List.map_cons];exact K3 _ i1
   ·rw [List.map_cons] at h ⊢;rcases Lj.mp h with e|e
    ·exact Lj.mpr (.inl e)
    ·exact K3 _ (i2 g e)
theorem nA (f:Str) (v:V):∀fs:List (Str×V),(f9 f v fs).length<=fs.length+1
 |[]=>by simp [f9]
 |(k,x)::r=>by
  have ih:=nA f v r;rw [show f9 f v ((k,x)::r)=(if k=f then (k,v)::r else (k,x)::f9 f v r) from rfl];by_cases hk:k=f
  ·rw [if_pos hk,List.length_cons,List.length_cons]; lia
  ·rw [if_neg hk,List.length_cons,List.length_cons]; lia
theorem qx.some_of {v:V} {o:Option Value} (r:qx (some v) o):∃u,o=some u/\bA v u:=by
 cases o with
 |none=>exact (show False from r).elim
 |some u=>exact ⟨u,rfl,r⟩
theorem qx.none_of {o:Option Value} (r:qx none o):o=none:=by
 cases o with
 |none=>rfl
 |some u=>exact (show False from r).elim
theorem zk {v:V} (r:bA v u):PySem.W.handedIn u=true:=by
 cases v with
 |non=>cases (show u=Value.none from r); rfl
 |bl b=>cases (show u=Value.bool b from r); rfl
 |int i=>obtain ⟨t,e⟩:=(show ∃t,u=Value.int i t from r); cases e; rfl
 |str x=>obtain ⟨t,e⟩:=(show ∃t,u=Value.str x t from r); cases e; rfl
 |byt b=>obtain ⟨t,e⟩:=(show ∃t,u=Value.bytes b t from r); cases e; rfl
 |flt b=>obtain ⟨t,e⟩:=(show ∃t,u=Value.float b t from r); cases e; rfl
 |ref a=>cases (show u=Value.ref a from r); rfl
 |ty n=>cases (show u=Value.type n from r); rfl
section
variable {P:Program} {w:World} {H H':Hp} {h h':Heap} {a C dx:Addr} {fs N4:List (Str×V)}
theorem oh (hok:kr P w H h) (e:H a=some (.ins C dx fs)):∃mA,ObjM h a dx C mA/\(∀f,qx (fs.lookup f) (mA f))/\PySem.Within mA (fs.map (·.1))/\fs.length<=1000/\H dx=some (.own a):=by
 obtain ⟨d,z,ne,ob,mA,n,r,q⟩:=(show bU P w H h a (.ins C dx fs) from hok a _ e);exact ⟨mA,⟨ob,n,ne⟩,r,q,z,d⟩
end
structure Cls (K:Li) (C:Addr):Prop where
 pg:PySem.W.plainGet K C Str.empty=true
 hd:PySem.W.hasDictIn K C=true
 po:PySem.W.plainOver K C=true
 sa:PySem.W.findIn K (.ref C) "__setattr__" = some (some (.builtin "object.__setattr__"))
theorem Cls.get (c:Cls K C) (f:Str):PySem.W.plainGet K C f=true:=c.pg
def d0 (K:Li) (C:Addr) (f:Str):Prop:=PySem.W.findIn K (.ref C) f=some none
theorem d0.taker {f:Str} (n:d0 K C f):PySem.W.takerIn K C f=some none:=by
 unfold PySem.W.takerIn;rw [show PySem.W.findIn K (.ref C) f=some none from n];rfl
structure Meth (K:Li) (C:Addr) (m:Str) (f:Addr):Prop where
 at_:PySem.W.findIn K (.ref C) m=some (some (.ref f))
 fn:PySem.W.isFn K (.ref f)=true
 kp:PySem.W.keepIn K (.ref f)=true
section
variable {X:Cx} {pins:List (Addr×Obj)} {σ:St} {H:Hp} {s:Shared} {a C dx:Addr} {fs:List (Str×V)} {f:Str} {v:V} {A:Around} {E:Value->Shared->Prop}
theorem wJ {b:Bool} {Q:Value->Shared->Prop} (I:Inv X pins σ H s) (e:H a=some (.ins C dx fs)) (c:Cls X.K C) (n:d0 X.K C f) (l:fs.lookup f=some v)
  (h:∀u s',Inv X pins σ H s'->bA v u->Q u s'):wpAny (model X.prog X.w) A (getAttr (.ref a) f b) Q E s:=by
 obtain ⟨mA,O,r,_,_,_⟩:=oh I.hok e;obtain ⟨u,hu,ru⟩:=qx.some_of (v:=v) (o:=mA f) (by rw [<-l]; exact r f);exact Eb I.kIn O (c.get f) c.hd n hu (zk ru) (h u _ (I.tok _) ru)
theorem pU {m:Str} {g:Addr} {pl:Sem Bool} {Q:Value×List Value->Shared->Prop} (I:Inv X pins σ H s) (e:H a=some (.ins C dx fs)) (c:Cls X.K C) (k:Meth X.K C m g) (l:fs.lookup m=none)
  (h:Q (.ref g,[.ref a]) s):wpAny (model X.prog X.w) A (getMethod (.ref a) m pl) Q E s:=by
 obtain ⟨mA,O,r,_,_,_⟩:=oh I.hok e;have hn:mA m=none:=qx.none_of (by rw [<-l]; exact r m);exact BM I.kIn O (c.get m) k.at_ k.fn hn h
theorem wZ {y:V} {Q:Unit->Shared->Prop} (I:Inv X pins σ H s) (e:H a=some (.ins C dx fs)) (c:Cls X.K C) (n:d0 X.K C f) (hl:fs.length<1000) (ry:bA y u)
  (h:∀s',Inv X pins σ (upd H a (.ins C dx (f9 f y fs))) s'->Q () s'):wpAny (model X.prog X.w) A (setAttr (.ref a) f u) Q E s:=by
 obtain ⟨mA,O,r,wi,_,ho⟩:=oh I.hok e;have hz:(fs.map (·.1)).length<=sizeLine:=by rw [List.length_map,sizeLine_eq]; lia
 refine E1 I.kIn O c.sa c.po n.taker c.hd wi hz fun h' O' sb=>h _ ?_;have hd:∃o,h'.get? dx=some o:=let ⟨o,_,_,e',_⟩:=O'.ns; ⟨o,e'⟩
 refine I.write (x:=a) (e:=dx) (by rw [e]; exact True.intro) (.inr ho) (fun b q hb z=>(sb.2 b hb).trans z) hd ?_;refine ⟨by rw [aD O.ne]; exact ho,?_,O.ne,O'.obj,_,O'.ns,fun g=>?_,fun g hg=>?_⟩
 ·have:=nA f y fs; lia
 ·show qx ((f9 f y fs).lookup g) (if g=f then some u else mA g);rw [nu];by_cases q:g=f
  ·rw [if_pos q,if_pos q]; exact ry
  ·rw [if_neg q,if_neg q]; exact r g
 ·by_cases q:g=f
  ·rw [q]; exact (mH f y fs).1
  ·refine (mH f y fs).2 g (wi g fun z=>hg ?_);show (if g=f then some u else mA g)=none;rw [if_neg q]; exact z
theorem Inv.made (I:Inv X pins σ H s):Inv X pins σ (upd (upd H s.heap.objs.size (.own (s.heap.objs.size+1))) (s.heap.objs.size+1) (.ins C s.heap.objs.size []))
  { s with heap:=(s.heap.push PySem.W.emptyDict).push (PySem.W.instObj C s.heap.objs.size) }:=by
 have e1:(s.heap.push PySem.W.emptyDict).get? s.heap.objs.size=some PySem.W.emptyDict:=LC s.heap rfl;have e2:((s.heap.push PySem.W.emptyDict).push (PySem.W.instObj C s.heap.objs.size)).get? (s.heap.objs.size+1)=some (PySem.W.instObj C s.heap.objs.size):=by
  have:=LC (s.heap.push PySem.W.emptyDict) (o:=PySem.W.instObj C s.heap.objs.size) rfl
  rwa [Heap.size_push] at this
 have e3:(s.heap.push PySem.W.emptyDict).Ns s.heap.objs.size (fun _=>none):=⟨PySem.W.emptyDict,#[],_,e1,rfl,(fun e he=>absurd he 0x4),fun _=>rfl⟩;have I1:=I.laid (a:=s.heap.objs.size) (o:=.own (s.heap.objs.size+1)) (h':=s.heap.push PySem.W.emptyDict) (t':=s.toks) (fun b u q=>K6 _ q) (K9 _) ⟨_,e1⟩;refine I1.laid (a:=s.heap.objs.size+1) (o:=.ins C s.heap.objs.size []) (t':=s.toks) (fun b u q=>K6 _ q) (LF (Heap.size_push _ _)) ?_;have ne:s.heap.objs.size≠s.heap.objs.size+1:=LA (Nat.lt_succ_self _);refine ⟨by rw [aD ne,aM],Lv _,ne,e2,fun _=>none,(Heap.Ns1.of_empty e3).at fun o q=>K6 _ q,fun _=>True.intro,fun y hy=>absurd rfl hy⟩
theorem Dh {prog:Program} {env:Env} {f:Str} {pos:Pos} {s:Shared} {Q:Value->Shared->Prop} (hb:attributeBase e f env (eval e env)=eval e env)
  (h:wpAny (model prog w) A (eval e env) (fun o s₁=>wpAny (model prog w) A (getAttr o f true) Q E s₁) E s):wpAny (model prog w) A (eval (.Attribute e f pos) env) Q E s:=
 Attribute_any_ h (by rw [arm_eval_Attribute,hb])
end
def JO (K:Li) (ta:TE) (f:Str):TE:=fun σ H Q=>ta σ H fun x H1=>∃a C dx fs v,x=.ref a/\H1 a=some (.ins C dx fs)/\Cls K C/\d0 K C f/\fs.lookup f=some v/\Q v H1
def Hz (K:Li) (ta tv:TE) (f:Str):TS:=fun D σ H=>tv σ H fun y H1=>ta σ H1 fun x H2=>∃a C dx fs,x=.ref a/\H2 a=some (.ins C dx fs)/\Cls K C/\d0 K C f/\fs.length<1000 /\
 D.nx σ (upd H2 a (.ins C dx (f9 f y fs)))
section
variable {X:Cx} {o e value:Expr} {f:Str} {pos pos' tpos:Pos} {ta tv:TE}
theorem wx (he:PE X e ta) (hb:attributeBase e f X.env (eval e X.env)=eval e X.env):PE X (.Attribute e f pos) (JO X.K ta f):=by
 intro pins s σ H Q I h;refine Dh hb (bX (he pins s σ H _ I h) fun u s1 ⟨x,H1,I1,rx,a,C,dx,fs,v,ex,ea,c,n,l,q⟩=>?_);subst ex;obtain rfl:u=Value.ref a:=rx;exact wJ I1 ea c n l fun u' s2 I2 ru=>⟨v,H1,I2,ru,q⟩
theorem sL (ha:PE X o ta) (hv:PE X value tv) (hs:swapsWith value (some (.Attribute o f pos')) pos.line X.env=pure false):PS X (.Assign [.Attribute o f pos'] value pos) (Hz X.K ta tv f):=by
 intro pins s σ H D I h;refine plainObj_wpAny_Assign_Attribute (bX (hv pins s σ H _ I h) fun u s1 ⟨y,H1,I1,ry,q⟩=>bX (ha pins s1 σ H1 _ I1 q) fun ov s2 ⟨x,H2,I2,rx,a,C,dx,fs,ex,ea,c,n,l,q2⟩=>?_) hs;subst ex;obtain rfl:ov=Value.ref a:=rx;exact wZ I2 ea c n l ry fun s3 I3=>⟨σ,_,I3,q2⟩
theorem Fs {pl:Sem Bool} {m:Str} {apos:Pos} {args:List Expr} {Q:Value->Shared->Prop} {te:TE} (he:PE X e te) (I:Inv X pins σ H s)
  (h:te σ H fun x H1=>∃a C dx fs g,x=.ref a/\H1 a=some (.ins C dx fs)/\Cls X.K C/\Meth X.K C m g/\fs.lookup m=none /\
   ∀s1,Inv X pins σ H1 s1->wpAny (model X.prog X.w) X.A (callWith pos (.ref g) [.ref a] (backTo pos (starEach args X.env)) (backToKw pos (keywordEach [] X.env))) Q X.xe s1)
  (ht:eval (.Call (.Attribute e m apos) args [] pos) X.env=(do
   let ov <-eval e X.env
   standAt apos.atName
   let (f,first) <-holding [ov] (getMethod ov m pl)
   callWith pos f first (backTo pos (starEach args X.env)) (backToKw pos (keywordEach [] X.env)))) :
  wpAny (model X.prog X.w) X.A (eval (.Call (.Attribute e m apos) args [] pos) X.env) Q X.xe s:=by
 refine PySem.W.methodCall_KW (pl:=pl) (bX (he pins s σ H _ I h) fun u s1 ⟨x,H1,I1,rx,a,C,dx,fs,g,ex,ea,c,k,l,q⟩=>?_) ht;subst ex;obtain rfl:u=Value.ref a:=rx;exact pU I1 ea c k l (q s1 I1)
end
section
variable {X:Cx} {pins:List (Addr×Obj)} {σ:St} {H:Hp} {s:Shared} {A:Around} {E:Value->Shared->Prop} {Q:Value->Shared->Prop} {c:Value} {b:Bool}
inductive TyOf (K:Li) (H:Hp):V->Value->Prop where
 |non:TyOf K H .non (.type "NoneType")
 |bl (x:Bool):TyOf K H (.bl x) (.type "bool")
 |int (i:Int):TyOf K H (.int i) (.type "int")
 |str (x:Str):TyOf K H (.str x) (.type "str")
 |flt (x:UInt64):TyOf K H (.flt x) (.type "float")
 |lst {a:Addr} {xs:List V} (e:H a=some (.lst xs)):TyOf K H (.ref a) (.type "list")
 |frz {a:Addr} {o:Obj} {xs:List V} (e:H a=some (.frz o (.lst xs))):TyOf K H (.ref a) (.type "list")
 |tup {a:Addr} {xs:List V} (e:H a=some (.tup xs)):TyOf K H (.ref a) (.type "tuple")
 |dK {a:Addr} {kvs:List (t7×V)} (e:H a=some (.dK kvs)):TyOf K H (.ref a) (.type "dict")
 |dT {a:Addr} {kvs:List (List t7×V)} (e:H a=some (.dT kvs)):TyOf K H (.ref a) (.type "dict")
 |ins {a C dx:Addr} {fs:List (Str×V)} (e:H a=some (.ins C dx fs)) (cl:Cls K C) (ha:PySem.W.findIn K (.ref C) "__class__" = some (some (.builtin "object.__class__")))
   (hn:PySem.W.specialIn K (.builtin "object.__class__") "__get__" = some (some (.builtin "getset_descriptor.__get__"))) (htk:PySem.W.takesIn K (.builtin "object.__class__")=some true)
   (hm:PySem.W.mroIn K C (.type "object")=some true):TyOf K H (.ref a) (.ref C)
theorem yU {x:V} {t:Value} (I:Inv X pins σ H s) (rx:bA x u) (ty:TyOf X.K H x t) (e:PySem.W.kitOne X.K t c=some b) (h:∀tk,Q (.bool b) { s with toks:=tk }) :
  wpAny (model X.prog X.w) A (call (.builtin "isinstance") [u,c]) Q E s:=by
 cases ty with
 |non=>cases (show u=Value.none from rx); exact PySem.W.kia_one PySem.W.kitx_none I.kIn True.intro e (fun z=>nomatch z) h
 |bl y=>cases (show u=Value.bool y from rx); exact PySem.W.kia_one PySem.W.kitx_bool I.kIn True.intro e (fun z=>nomatch z) h
 |int i=>obtain ⟨t,q⟩:=(show ∃t,u=Value.int i t from rx); cases q; exact PySem.W.kia_one PySem.W.kitx_int I.kIn True.intro e (fun z=>nomatch z) h
 |str y=>obtain ⟨t,q⟩:=(show ∃t,u=Value.str y t from rx); cases q; exact PySem.W.kia_one PySem.W.kitx_str I.kIn True.intro e (fun z=>nomatch z) h
 |flt y=>obtain ⟨t,q⟩:=(show ∃t,u=Value.float y t from rx); cases q; exact PySem.W.kia_one PySem.W.kitx_float I.kIn True.intro e (fun z=>nomatch z) h
 |@lst a xs ea=>
  cases (show u=Value.ref a from rx);obtain ⟨_,_,n,_,h1⟩:=(show bU X.prog X.w H s.heap a (.lst xs) from I.hok a _ ea);exact PySem.W.kia_one PySem.W.kitx_list I.kIn ⟨_,h1,rfl⟩ e (fun z=>nomatch z) h
 |@frz a ob xs ea=>
  cases (show u=Value.ref a from rx);obtain ⟨_,_,_,n,_,h1⟩:=(show bU X.prog X.w H s.heap a (.frz ob (.lst xs)) from I.hok a _ ea);exact PySem.W.kia_one PySem.W.kitx_list I.kIn ⟨_,h1,rfl⟩ e (fun z=>nomatch z) h
 |@tup a xs ea=>
  cases (show u=Value.ref a from rx);obtain ⟨_,_,_,p⟩:=(show bU X.prog X.w H s.heap a (.tup xs) from I.hok a _ ea);obtain ⟨o,h1,h2,_⟩:=p;exact PySem.W.kia_one PySem.W.kitx_tuple I.kIn ⟨o,h1,h2⟩ e (fun z=>nomatch z) h
 |@dK a kvs ea=>
  cases (show u=Value.ref a from rx);obtain ⟨_,_,vs,_,p⟩:=(show bU X.prog X.w H s.heap a (.dK kvs) from I.hok a _ ea);obtain ⟨o,es,ep,h1,h2,_⟩:=p;exact PySem.W.kia_one PySem.W.kitx_dict I.kIn ⟨o,h1,h2.1⟩ e (fun z=>nomatch z) h
 |@dT a kvs ea=>
  cases (show u=Value.ref a from rx);obtain ⟨_,_,xs,_,o,es,ep,h1,h2,_⟩:=(show bU X.prog X.w H s.heap a (.dT kvs) from I.hok a _ ea);exact PySem.W.kia_one PySem.W.kitx_dict I.kIn ⟨o,h1,h2.1⟩ e (fun z=>nomatch z) h
 |@ins a C dx fs ea cl ha hn htk hm=>
  cases (show u=Value.ref a from rx);obtain ⟨mA,O,_⟩:=oh I.hok ea;obtain ⟨od,J,_⟩:=O.look;exact PySem.W.kia_one (PySem.W.kitx_own (cl.get _) cl.hd ha hn htk hm) I.kIn J e (fun z=>nomatch z) h
end
structure Room (k:Nat) (A:Around):Prop where
 hd:A.handled=none
 dp:A.depth+3*k+5<recursionLimit
 un:A.units+16*k+200<cLine
variable {k:Nat}
theorem Room.mono {j:Nat} (r:Room k A) (h:j<=k):Room j A:=⟨r.hd,by have:=r.dp; lia,by have:=r.un; lia⟩
theorem Room.deeper {k:Nat} {A:Around} (r:Room (k+1) A) (env:Env):Room k (A.deeper env):=
 ⟨r.hd,by have:=r.dp; show A.depth+1+3*k+5<_; lia,by have:=r.un; show A.units+3+16*k+200<_; lia⟩
theorem Room.in1 {k:Nat} {A:Around} (r:Room (k+1) A):Room k A.in1:=
 ⟨r.hd,by have:=r.dp; show A.depth+3*k+5<_; lia,by have:=r.un; show A.units+1+16*k+200<_; lia⟩
variable {us:List Value}
theorem v3 {kw:List (Str×Value)}:(A.under (.builtin "type.__call__" ⟨.ref C::us,kw⟩)).depth=A.depth+1:=by
 first|rfl|simp [Around.under,Code.weight,Code.isCreation,Code.isGuard,Code.isCaller,Code.frames,Code.isFrame,guardIds]
theorem wA {kw:List (Str×Value)}:(A.under (.builtin "type.__call__" ⟨.ref C::us,kw⟩)).units=A.units+1:=by
 first|rfl|simp [Around.under,Code.cUnits,Code.frames,Code.isFrame]
theorem Room.make (r:Room (k+1) A) (C:Addr) (us:List Value) (kw:List (Str×Value)):Room k (A.under (.builtin "type.__call__" ⟨.ref C::us,kw⟩)):=
 ⟨r.hd,by have:=r.dp; rw [v3]; lia,by have:=r.un; rw [wA]; lia⟩
theorem Room.depth {k:Nat} {A:Around} (r:Room k A):A.depth<recursionLimit:=by have:=r.dp; lia
theorem Room.units {k:Nat} {A:Around} (r:Room k A):A.units+64<cLine:=by have:=r.un; lia
def HN:TA:=fun _ H Q=>Q [] H
def Fg (ta:TE) (tr:TA):TA:=fun σ H Q=>ta σ H fun x H1=>tr σ H1 fun xs H2=>Q (x::xs) H2
section
variable {X:Cx} {e:Expr} {es:List Expr} {te:TE} {t:TA} {pos:Pos}
theorem jy:PA X [] HN:=fun _ _ _ _ H Q I h=>Calls.spliced_nil ⟨[],H,I,.nil,h⟩
theorem iO (ha:PE X e te) (hr:PA X es t) (hs:starEach (e::es) X.env=(false,eval e X.env)::starEach es X.env:=by rfl):PA X (e::es) (Fg te t):=by
 intro pos pins s σ H Q I h;rw [hs];show wpAny _ _ (spliced ((false,eval e X.env)::backTo pos (starEach es X.env))) _ _ s;refine Calls.spliced_cons (bX (ha pins s σ H _ I h) fun u s1 ⟨x,H1,I1,r1,q1⟩=>?_);exact bX (hr pos pins s1 σ H1 _ I1 q1) fun us s2 ⟨xs,H2,I2,r2,q2⟩=>⟨x::xs,H2,I2,.cons r1 r2,q2⟩
def Km (t:TA):TE:=fun σ H Q=>t σ H fun xs H1=>xs.length<=sizeLine/\∀p,H1 p=none->Q (.ref p) (upd H1 p (.tup xs))
def IU (t:TA):TE:=fun σ H Q=>t σ H fun xs H1=>xs.length<=sizeLine/\∀p,H1 p=none->Q (.ref p) (upd H1 p (.lst xs))
theorem v9 {x1} (h:PA X es t):PE X (.Tuple es x1 pos) (Km t):=by
 intro pins s σ H Q I hq;refine wpAny_Tuple_spliced (bX (h pos pins s σ H _ I hq) fun us s1 ⟨xs,H1,I1,r,z,q⟩=>⟨by rw [<-r.length]; exact z,?_⟩);have hf:H1 s1.heap.objs.size=none:=I1.hok.fresh (K9 _);refine ⟨.ref s1.heap.objs.size,upd H1 s1.heap.objs.size (.tup xs),I1.laid (t':=s1.toks) (fun b u e=>K6 _ e) (K9 _) ?_,rfl,q _ hf⟩;exact ⟨z,us,r,⟨_,LC _ rfl,rfl,_,rfl⟩⟩
theorem Cj (h:PA X es t):PE X (.List es pos) (IU t):=by
 intro pins s σ H Q I hq;refine wpAny_List_spliced (bX (h pos pins s σ H _ I hq) fun us s1 ⟨xs,H1,I1,r,z,q⟩=>⟨by rw [<-r.length]; exact z,?_⟩);have hf:H1 s1.heap.objs.size=none:=I1.hok.fresh (K9 _);refine ⟨.ref s1.heap.objs.size,upd H1 s1.heap.objs.size (.lst xs),I1.laid (t':=s1.toks) (fun b u e=>K6 _ e) (K9 _) ?_,rfl,q _ hf⟩;exact ⟨z,us,0,r,LC _ rfl⟩
end
abbrev Sp:=List V->Hp->VK->XK->Prop
abbrev zE:=List Env->Hp->Shared->XK->Value->Shared->Prop
structure Env0 (P:Program) (w:World) (K:Li) (mg:Str->Option Value) (base:Heap) (A:Around) (outer:List Env) (s:Shared) (H:Hp):Prop where
 frames:A.frames=some outer
 mod:Mod K mg base
 bs:∀b o,base.get? b=some o->s.heap.get? b=some o/\H b=none
 bsz:base.objs.size<=s.heap.objs.size
 funs:s.heap.FunFrames base outer
 frf:∀b∈ix outer,H b=none
 hok:kr P w H s.heap
 bare:AllBare s.gens
def CE (outer:List Env) (P:Program) (w:World) (H:Hp) (s:Shared) (Q:VK) (u:Value) (s':Shared):Prop:=
 ∃v H',s'.os=s.os/\AllBare s'.gens/\Un (ix outer) [] H H' s.heap s'.heap/\kr P w H' s'.heap/\bA v u/\Q v H'
def CR (CX:zE) (outer:List Env) (P:Program) (w:World) (H:Hp) (s:Shared) (Q:VK) (E:XK) (r:Result) (s':Shared):Prop:=
 match r with
 |.ok (.ret u)=>CE outer P w H s Q u s'
 |.ok _=>False
 |.error e=>CX outer H s E e s'
structure FnOk (P:Program) (w:World) (K:Li) (mg:Str->Option Value) (base:Heap) (CX:zE) (k:Nat) (f:Addr) (fd:FuncData) (ps:List Str) (sp:Sp):Prop where
 len:∀vs H Q E,sp vs H Q E->vs.length=ps.length
 run:∀(A:Around) (outer:List Env) (s:Shared) (H:Hp) (args:Args) (us:List Value) (vs:List V) (Q:VK) (E:XK),Room k A->Env0 P w K mg base A outer s H->BindsTo s fd args (ps.zip us)->aS vs us->sp vs H Q E ->
  codeAny (model P w) A (.call (.ref f) args) (CR CX outer P w H s Q E) s
theorem FnOk.mono {P:Program} {w:World} {K:Li} {mg:Str->Option Value} {base:Heap} {CX:zE} {j k:Nat} {f:Addr} {fd:FuncData} {ps:List Str} {sp:Sp} (F:FnOk P w K mg base CX j f fd ps sp) (h:j<=k) :
  FnOk P w K mg base CX k f fd ps sp:=⟨F.len,fun A outer s H args us vs Q E hr=>F.run A outer s H args us vs Q E (hr.mono h)⟩
variable {mg:Str->Option Value} {base:Heap} {CX:zE} {ps:List Str}
theorem FnOk.imp {f:Addr} {fd:FuncData} {sp sp':Sp} (F:FnOk P w K mg base CX k f fd ps sp)
  (h:∀vs H Q E,sp' vs H Q E->sp vs H Q E):FnOk P w K mg base CX k f fd ps sp':=
 ⟨fun vs H Q E q=>F.len vs H Q E (h _ _ _ _ q),fun A outer s H args us vs Q E hr he hb hv hs=>F.run A outer s H args us vs Q E hr he hb hv (h _ _ _ _ hs)⟩
theorem Env0.make {outer:List Env} (e:Env0 P w K mg base A outer s H) (C:Addr) (us:List Value) (kw:List (Str×Value)) :
  Env0 P w K mg base (A.under (.builtin "type.__call__" ⟨.ref C::us,kw⟩)) outer s H:=⟨by first|exact e.frames|(simpa [Around.under,Code.envs,Code.isFrame,pushEnvs] using e.frames),e.mod,e.bs,e.bsz,e.funs,e.frf,e.hok,e.bare⟩
theorem Env0.in1 {P:Program} {w:World} {K:Li} {mg:Str->Option Value} {base:Heap} {A:Around} {outer:List Env} {s:Shared} {H:Hp} (e:Env0 P w K mg base A outer s H) :
  Env0 P w K mg base A.in1 outer s H:=⟨e.frames,e.mod,e.bs,e.bsz,e.funs,e.frf,e.hok,e.bare⟩
section
variable {X:Cx} {pins:List (Addr×Obj)} {σ:St} {H:Hp} {s s':Shared}
theorem Inv.env0 (I:Inv X pins σ H s):Env0 X.prog X.w X.K X.mg X.base X.A X.stack s H:=
 ⟨I.ok.frames,I.ok.mod,I.bs,Lw I.ok.bsz I.sz,I.stack,I.stkFree,I.hok,I.bare⟩
theorem Inv.after {Q:VK} (I:Inv X pins σ H s) (h:CE X.stack X.prog X.w H s Q u s'):EP X pins σ Q u s':=by
 obtain ⟨v,H',os,bare,un,hok,r,q⟩:=h;obtain ⟨hh,g,d,t,os'⟩:=s';obtain rfl:os'=s.os:=os;exact ⟨v,H',I.call (h':=hh) (g':=g) (d':=d) (t':=t) (ch:=[]) un hok bare (fun b z=>absurd z 0x4),r,q⟩
end
def IV (sp:Sp) (MY:List V) (E:XK) (t:TA):TE:=fun σ H Q=>t σ H fun vs H1=>sp (vs++MY) H1 Q E
def Jb (C:Addr) (m:Str) (sp:Sp) (MY:List V) (E:XK) (ta:TE) (t:TA):TE:=fun σ H Q=>ta σ H fun x H1=>∃a dx fs,x=.ref a/\H1 a=some (.ins C dx fs)/\fs.lookup m=none /\
 t σ H1 fun vs H2=>sp (x::(vs++MY)) H2 Q E
def Jh (C:Addr) (sp:Sp) (MY:List V) (E:XK) (t:TA):TE:=fun σ H Q=>t σ H fun vs H1=>∀x dx,H1 x=none->H1 dx=none->dx≠x ->
 sp (.ref x::(vs++MY)) (upd (upd H1 dx (.own x)) x (.ins C dx [])) (fun v H2=>v=.non/\Q (.ref x) H2) E
def f6 (K:Li) (fd:FuncData) (ps:List Str) (ds:List Value):Prop:=
 ∀(s:Shared) (us:List Value),K.In s.heap->(us++ds).length=ps.length->BindsTo s fd ⟨us,[]⟩ (ps.zip (us++ds))
theorem f6.all {fd:FuncData} (h:∀us:List Value,us.length=ps.length->bindArgs fd ⟨us,[]⟩=pure (ps.zip us)):f6 K fd ps []:=fun s us _ hl=>by
 rw [List.append_nil] at hl ⊢;exact .of_eq (h us hl)
def iM (CX:zE) (X:Cx) (E:XK):Prop:=∀(pins:List (Addr×Obj)) (σ:St) (H:Hp) (s:Shared) (e:Value) (s':Shared),Inv X pins σ H s->CX X.stack H s E e s'->X.xe e s'
section
variable {X:Cx} {CX:zE} {k:Nat} {f C:Addr} {fd:FuncData} {ps:List Str} {sp:Sp} {MY:List V} {ds:List Value} {E:XK} {x m:Str} {p pos apos:Pos} {e o:Expr} {es:List Expr} {ta:TE} {t:TA}
theorem Ct {Q:VK} {vs:List V} (F:FnOk X.prog X.w X.K X.mg X.base CX k f fd ps sp) (hr:Room k X.A) (hb:f6 X.K fd ps ds) (hd:aS MY ds) (hx:iM CX X E)
  (I:Inv X pins σ H s) (r:aS vs us) (h:sp (vs++MY) H Q E):wpAny (model X.prog X.w) X.A (call (.ref f) us) (EP X pins σ Q) X.xe s:=by
 have r2:aS (vs++MY) (us++ds):=r.append hd;have hl:(us++ds).length=ps.length:=by rw [<-r2.length]; exact F.len _ _ _ _ h
 refine wpAny_call (codeAny_mono (F.run X.A X.stack s H ⟨us,[]⟩ (us++ds) (vs++MY) Q E hr I.env0 (hb s us I.kIn hl) r2 h) fun r s' hq=>?_);cases r with
 |error e=>exact hx pins σ H s e s' I hq
 |ok fl=>
  cases fl with
  |ret u=>exact I.after hq
  |next=>exact False.elim hq
  |brk=>exact False.elim hq
  |cont=>exact False.elim hq
theorem yz (F:FnOk X.prog X.w X.K X.mg X.base CX k f fd ps sp) (hr:Room k X.A) (hg:Gl X x) (hm:X.mg x=some (.ref f)) (hk:PySem.W.keepIn X.K (.ref f)=true) (hb:f6 X.K fd ps ds) (hd:aS MY ds) (hx:iM CX X E)
  (ha:PA X (e::es) t) (Mv:(x==("__debug__" : Str))=false:=by decide) (he:starEach (e::es) X.env=(false,eval e X.env)::starEach es X.env:=by rfl) (Me:(backTo pos (starEach es X.env)).any (·.1)=false:=by rfl) :
  PE X (.Call (.Name x p) (e::es) [] pos) (IV sp MY E t):=by
 intro pins s σ H Q I h;refine wpAny_Call_Name_kw (om I hg hm ?_ Mv);refine PySem.W.callWith_K (h₀:=X.base) I.ok.mod.kin hk (bX (ha pos pins s σ H _ I h) fun us s1 ⟨vs,H1,I1,r,q⟩=>⟨I1.kIn,?_⟩) he Me;exact Ct F hr hb hd hx I1 r q
theorem Dq {pl:Sem Bool} (he:PE X o ta) (c:Cls X.K C) (hm:Meth X.K C m f) (F:FnOk X.prog X.w X.K X.mg X.base CX k f fd ps sp) (hr:Room k X.A) (hb:f6 X.K fd ps ds) (hd:aS MY ds) (hx:iM CX X E) (ha:PA X (e::es) t)
  (Nl:starEach (e::es) X.env=(false,eval e X.env)::starEach es X.env:=by rfl) (Me:(backTo pos (starEach es X.env)).any (·.1)=false:=by rfl)
  (ht:eval (.Call (.Attribute o m apos) (e::es) [] pos) X.env=(do
   let ov <-eval o X.env
   standAt apos.atName
   let (f,first) <-holding [ov] (getMethod ov m pl)
   callWith pos f first (backTo pos (starEach (e::es) X.env)) (backToKw pos (keywordEach [] X.env))):=by rfl) :
  PE X (.Call (.Attribute o m apos) (e::es) [] pos) (Jb C m sp MY E ta t):=by
 intro pins s σ H Q I h;refine PySem.W.methodCall_KW (pl:=pl) (bX (he pins s σ H _ I h) fun u s1 ⟨x,H1,I1,rx,a,dx,fs,ex,ea,l,q⟩=>?_) ht;subst ex;obtain rfl:u=Value.ref a:=rx;refine pU I1 ea c hm l ?_;refine PySem.W.callWith_K (first:=[.ref a]) (h₀:=X.base) I.ok.mod.kin hm.kp (bX (ha pos pins s1 σ H1 _ I1 q) fun us s2 ⟨vs,H2,I2,r,q2⟩=>⟨I2.kIn,?_⟩) Nl Me;exact Ct (us:=.ref a::us) (vs:=.ref a::vs) F hr hb hd hx I2 (.cons rfl r) q2
structure Mk (K:Li) (C f:Addr):Prop where
 makes:PySem.W.makesIn K C=true
 init:PySem.W.findIn K (.ref C) "__init__" = some (some (.ref f))
 fn:PySem.W.isFn K (.ref f)=true
 kp:PySem.W.keepIn K (.ref C)=true
theorem B3 {Q:VK} {vs:List V} (M:Mk X.K C f) (F:FnOk X.prog X.w X.K X.mg X.base CX k f fd ps sp) (hr:Room (k+1) X.A) (hb:f6 X.K fd ps ds) (hd:aS MY ds)
  (hx:iM CX X E) (I:Inv X pins σ H s) (r:aS vs us)
  (h:∀x dx,H x=none->H dx=none->dx≠x->sp (.ref x::(vs++MY)) (upd (upd H dx (.own x)) x (.ins C dx [])) (fun v H2=>v=.non/\Q (.ref x) H2) E) :
  wpAny (model X.prog X.w) X.A (call (.ref C) us) (EP X pins σ Q) X.xe s:=by
 have hq:=h (s.heap.objs.size+1) s.heap.objs.size (I.hok.fresh (Nat.le_succ _)) (I.hok.fresh (K9 _)) (LA (Nat.lt_succ_self _));have I2:=Inv.made (C:=C) I;have r2:aS (V.ref (s.heap.objs.size+1)::(vs++MY)) (Value.ref (s.heap.objs.size+1)::(us++ds)):=.cons rfl (r.append hd);have hl:(Value.ref (s.heap.objs.size+1)::us++ds).length=ps.length:=by
  have e:=r2.length;rw [F.len _ _ _ _ hq] at e;exact e.symm
 refine wpAny_call (AF (f:=f) I.kIn M.makes M.init (beq_iff_eq.mp M.fn) (codeAny_mono (F.run _ X.stack _ _ ⟨Value.ref (s.heap.objs.size+1)::us,[]⟩ (Value.ref (s.heap.objs.size+1)::(us++ds)) _ _ E (hr.make C us [])
  (I2.env0.make C us []) (hb _ (Value.ref (s.heap.objs.size+1)::us) I2.kIn hl) r2 hq) fun r s' hq'=>?_))
 cases r with
 |error e=>exact hx pins σ _ _ e s' I2 hq'
 |ok fl=>
  cases fl with
  |ret u=>
   obtain ⟨v,H',I3,rv,ev,q3⟩:=I2.after hq';subst ev;exact ⟨rv,⟨V.ref (s.heap.objs.size+1),H',I3,rfl,q3⟩⟩
  |next=>exact False.elim hq'
  |brk=>exact False.elim hq'
  |cont=>exact False.elim hq'
theorem yu (M:Mk X.K C f) (F:FnOk X.prog X.w X.K X.mg X.base CX k f fd ps sp) (hr:Room (k+1) X.A) (hg:Gl X x) (hm:X.mg x=some (.ref C)) (hb:f6 X.K fd ps ds) (hd:aS MY ds) (hx:iM CX X E)
  (ha:PA X (e::es) t) (Mv:(x==("__debug__" : Str))=false:=by decide) (he:starEach (e::es) X.env=(false,eval e X.env)::starEach es X.env:=by rfl) (Me:(backTo pos (starEach es X.env)).any (·.1)=false:=by rfl) :
  PE X (.Call (.Name x p) (e::es) [] pos) (Jh C sp MY E t):=by
 intro pins s σ H Q I h;refine wpAny_Call_Name_kw (om I hg hm ?_ Mv);refine PySem.W.callWith_K (h₀:=X.base) I.ok.mod.kin M.kp (bX (ha pos pins s σ H _ I h) fun us s1 ⟨vs,H1,I1,r,q⟩=>⟨I1.kIn,?_⟩) he Me;exact B3 M F hr hb hd hx I1 r q
end
section
variable {X:Cx} {CX:zE} {k:Nat} {f C:Addr} {fd:FuncData} {ps ks:List Str} {sp:Sp} {E:XK} {x m:Str} {p pos apos kpos:Pos} {e o:Expr} {es:List Expr} {kws:List Keyword} {te ta:TE} {t tk:TA} {nm:Option Str}
variable {g:List Value->List Value->List Value} {gV:List V->List V->List V}
end
structure FnScope (N P:List Str) (sc:Scope):Prop where
 kind:sc.kind=.function
 co:sc.isCoroutine=false
 gen:sc.isGenerator=false
 nd:N.Nodup
 pre:N.take P.length=P
 par:∀x∈P,sc.names.lookup x=some .local\/sc.names.lookup x=some .cell
 nofree:∀y∈sc.names,y.2≠.free
theorem qS {kindOf:Str->Option NameKind} {x:Str}:∀{binds:List (Str×Value)} {m:Str->Option Value},(∀v,(x,v)∉binds)->bindL kindOf binds m x=m x
 |[],_,_=>rfl
 |(n,v)::r,m,h=>by
  unfold bindL;rw [qS fun w hw=>h w (K3 _ hw)];split
  ·have:x≠n:=by rintro rfl; exact h v K5
   simp [this]
  ·rfl
theorem rJ {kindOf:Str->Option NameKind} {x:Str}:∀{binds:List (Str×Value)} {m:Str->Option Value},(∀v,(x,v)∉binds)->bindC kindOf binds m x=m x
 |[],_,_=>rfl
 |(n,v)::r,m,h=>by
  unfold bindC;rw [rJ fun w hw=>h w (K3 _ hw)];split
  ·rfl
  ·have:x≠n:=by rintro rfl; exact h v K5
   simp [this]
theorem rV {kindOf:Str->Option NameKind} {x:Str} {v:Value}:∀{P:List Str} {vs:List Value} {i:Nat} {m:Str->Option Value},P.Nodup->P[i]?=some x->vs[i]?=some v->kindOf x=some .local ->
  bindL kindOf (P.zip vs) m x=some v
 |[],_,_,_,_,h,_,_=>by simp at h
 |_::_,[],_,_,_,_,h,_=>by simp at h
 |p::P,w::vs,0,m,nd,h1,h2,hk=>by
  simp at h1 h2; subst h1; subst h2
  show bindL kindOf ((p,w)::P.zip vs) m p=_;unfold bindL;rw [qS fun v hv=>(List.nodup_cons.mp nd).1 (List.of_mem_zip hv).1,if_pos hk];simp
 |p::P,w::vs,i+1,m,nd,h1,h2,hk=>by
  show bindL kindOf ((p,w)::P.zip vs) m x=_;unfold bindL;exact rV (i:=i) (List.nodup_cons.mp nd).2 (by simpa using h1) (by simpa using h2) hk
theorem qX {kindOf:Str->Option NameKind} {x:Str} {v:Value}:∀{P:List Str} {vs:List Value} {i:Nat} {m:Str->Option Value},P.Nodup->P[i]?=some x->vs[i]?=some v->kindOf x≠some .local ->
  bindC kindOf (P.zip vs) m x=some v
 |[],_,_,_,_,h,_,_=>by simp at h
 |_::_,[],_,_,_,_,h,_=>by simp at h
 |p::P,w::vs,0,m,nd,h1,h2,hk=>by
  simp at h1 h2; subst h1; subst h2
  show bindC kindOf ((p,w)::P.zip vs) m p=_;unfold bindC;rw [rJ fun v hv=>(List.nodup_cons.mp nd).1 (List.of_mem_zip hv).1,if_neg hk];simp
 |p::P,w::vs,i+1,m,nd,h1,h2,hk=>by
  show bindC kindOf ((p,w)::P.zip vs) m x=_;unfold bindC;exact qX (i:=i) (List.nodup_cons.mp nd).2 (by simpa using h1) (by simpa using h2) hk
noncomputable def start (N:List Str) (vs:List V):St:=vs.map some++List.replicate (N.length-vs.length) none
noncomputable def eY (CX:zE) (P:Program) (w:World) (K:Li) (mg:Str->Option Value) (base:Heap) (N:List Str) (qual:Str) (scope:Scope) (f:Addr) (cd:Value) (A:Around) (outer:List Env) (s:Shared) (H:Hp) (E:XK):Cx where
 prog:=P
 w:=w
 K:=K
 mg:=mg
 base:=base
 A:=A.deeper (envOfC qual scope s.heap.objs.size f cd)
 N:=N
 s₀:=s
 H₀:=H
 env:=envOfC qual scope s.heap.objs.size f cd
 outer:=outer
 stack:=envOfC qual scope s.heap.objs.size f cd::outer
 ex:=[]
 calm:=true
 fn:=fun _=>true
 pn:=[]
 xe:=fun e s'=>wpAny (model P w) (A.deeper (envOfC qual scope s.heap.objs.size f cd)) (leaving (envOfC qual scope s.heap.objs.size f cd) e) (fun _ s''=>CX outer H s E e s'') (fun e' s''=>CX outer H s E e' s'') s'
theorem vi {sc:Scope} {n:Nat} {x:Str} (h:sc.names.lookup x=some .cell):∃c,(cellsFrom n sc.names []).lookup x=some c:=by
 have q:=PySem.W.cellsFrom_some sc.names n [] (.inl h);exact Lq.mp q
theorem yO {N:List Str} {qual:Str} {scope:Scope} {f:Addr} {cd:Value} {outer:List Env} {s1:Shared} {E:XK} {vs:List V}
  (S:FnScope N ps scope) (hd:A.handled=none) (e0:Env0 P w K mg base A outer s H) (hl:vs.length=ps.length) (r:aS vs us)
  (x:InCallC s s.heap.objs.size (bindL (envOfC qual scope s.heap.objs.size f cd).kindOf (ps.zip us) fun _=>none) (cellsFrom (s.heap.objs.size+1) scope.names []) (bindC (envOfC qual scope s.heap.objs.size f cd).kindOf (ps.zip us) fun _=>none) s1) :
  Inv (eY CX P w K mg base N qual scope f cd A outer s H E) [] (start N vs) H s1:=by
 have Me:ps.length<=N.length:=by have:=congrArg List.length S.pre; rw [List.length_take] at this; lia
 obtain ⟨h1,tk,rfl,hk⟩:=x.done;have noA:∀b:Addr,b∉(eY CX P w K mg base N qual scope f cd A outer s H E).ex:=fun b z=>absurd (show b∈([]:List Addr) from z) 0x4;refine ⟨⟨e0.mod,S.kind,rfl,rfl,K9 _,fun y z c h1 h2=>?_,fun y hy=>?_,fun y c _ h=>?_,fun _=>hd,Around.frames_deeper e0.frames,.inr ⟨rfl,rfl⟩,fun b z=>absurd z (noA b),e0.bs,e0.bsz,fun b _ _=>noA b,fun b z=>absurd z (noA b),e0.funs,e0.frf⟩,
  rfl,e0.bare,Un.kept hk,⟨_,x.toInCall.ns,fun i y v h1 h2 h3=>?_⟩,fun y c h=>⟨_,x.cell y c h⟩,e0.hok.fresh (K9 _),fun y c h=>?_,fun p hp=>absurd (show p∈([]:List (Addr×Obj)) from hp) 0x4,e0.hok.kept hk,?_⟩
 ·exact name_of_addr x.apart (PySem.mem_of_lookup h1) (PySem.mem_of_lookup h2)
 ·have hy:scope.names.lookup y=some .cell\/scope.names.lookup y=some .free:=hy;rcases hy with hy|hy
  ·exact vi hy
  ·exact absurd rfl (S.nofree _ (PySem.mem_of_lookup hy))
 ·exact Nat.le_of_lt (x.above y c (PySem.mem_of_lookup h))
 ·have hi:i<vs.length:=by
   unfold start at h2;by_cases hi:i<vs.length
   ·exact hi
   ·rw [List.getElem?_append_right (by simpa using hi)] at h2;rw [List.getElem?_replicate] at h2;split at h2 <;> cases h2
  have ha:vs[i]?=some v:=by
   unfold start at h2;rw [List.getElem?_append_left (by simpa using hi),List.getElem?_map] at h2;cases e:vs[i]? with
   |none=>rw [e] at h2; cases h2
   |some a=>rw [e] at h2; cases h2; rfl
  obtain ⟨u,hu,rv⟩:=r.get ha;have hp:ps[i]?=some y:=by
   rw [<-S.pre,List.getElem?_take_of_lt 0x1]; exact h1
  have ndP:ps.Nodup:=by rw [<-S.pre]; exact S.nd.sublist (List.take_sublist _ _)
  refine ⟨u,rv,?_⟩;rcases S.par y (List.mem_of_getElem? hp) with k|k
  ·exact .inl ⟨k,rV ndP hp hu k⟩
  ·obtain ⟨c,e⟩:=vi (n:=s.heap.objs.size+1) k;refine .inr ⟨.inl k,c,e,?_⟩;have q:=x.cell y c e;rw [qX ndP hp hu (by show scope.names.lookup y≠_; rw [k]; decide)] at q;exact q
 ·exact e0.hok.fresh (Nat.le_of_lt (x.above y c (PySem.mem_of_lookup h)))
 ·unfold start;show _=N.length;rw [List.length_append,List.length_map,List.length_replicate];lia
theorem Ad {f:Addr} {name qual:Str} {params:Arguments} {body:List Stmt} {scope:Scope} {dV kV doc pm LM ct oc:Value} {an od:Option Addr}
  {NB:Array (Option Value)} {N:List Str} {sp:Sp} (lk:K.lookup f=some ⟨oc,od,.func (PySem.W.fnOf name qual params body scope dV kV doc pm an LM ct),NB⟩) (Ng:PySem.W.codeIn K LM qual=true) (S:FnScope N ps scope)
  (len:∀vs H Q E,sp vs H Q E->vs.length=ps.length)
  (NL:∀(A:Around) (outer:List Env) (s:Shared) (H:Hp) (vs:List V) (Q:VK) (E:XK),Room k (A.deeper (envOfC qual scope s.heap.objs.size f LM))->sp vs H Q E ->
   ∃t,qj (eY CX P w K mg base N qual scope f LM A outer s H E) body t/\t { nx:=fun _ H'=>Q .non H',rt:=Q } (start N vs) H) :
  FnOk P w K mg base CX (k+1) f (PySem.W.fnOf name qual params body scope dV kV doc pm an LM ct) ps sp:=by
 refine ⟨len,fun A outer s H args us vs Q E hr e0 hb r MW=>?_⟩;have hl:=len _ _ _ _ MW;have KX:K.In s.heap:=e0.mod.kin.keeps fun b o e=>(e0.bs b o e).1;have lim:s.heap.NoLimit:=e0.mod.nolimit.keeps fun b o e=>(e0.bs b o e).1;have hkind:∀y∈ps.zip us,scope.names.lookup y.1=some .local\/(scope.names.lookup y.1=some .cell/\((cellsFrom (s.heap.objs.size+1) scope.names []).lookup y.1).isSome=true):=fun ⟨n,v⟩ hy=>by
  rcases S.par n (List.of_mem_zip hy).1 with q|q
  ·exact .inl q
  ·exact .inr ⟨q,PySem.W.cellsFrom_some _ _ _ (.inl q)⟩
 refine codeAny_call_function hr.depth (KX _ _ lk) rfl S.co S.gen rfl (PySem.W.codeRec_of KX Ng) (hb _ _ _ _ ?_);refine wpAny_newFunctionEnv_cells S.kind hkind fun env he s1 x=>?_;subst he;refine ⟨lim.keeps x.toInCall.keep,codeAny_func ?_⟩;obtain ⟨t,ht,hq⟩:=NL A outer s H vs Q E (hr.deeper _) MW;have I:Inv (eY CX P w K mg base N qual scope f LM A outer s H E) [] (start N vs) H s1:=yO S hr.hd e0 hl r x;refine wpAny_mono (ht [] s1 (start N vs) H _ I hq) (fun fl s' hs=>?_) fun e s' hs=>hs;have fin:∀{σ':St} {H':Hp} {v:V} {u:Value},Inv (eY CX P w K mg base N qual scope f LM A outer s H E) [] σ' H' s'->bA v u->Q v H'->CE outer P w H s Q u s':=
  fun {σ' H' v u} J rv q=>⟨v,H',J.os,J.bare,J.base,J.hok,rv,q⟩
 cases fl with
 |ret u=>
  obtain ⟨v,σ',H',J,rv,q⟩:=hs;exact fin J rv q
 |next=>
  obtain ⟨σ',H',J,q⟩:=hs;exact fin (v:=V.non) (u:=Value.none) J rfl q
 |brk=>
  obtain ⟨_,_,_,q⟩:=hs;exact False.elim q
 |cont=>
  obtain ⟨_,_,_,q⟩:=hs;exact False.elim q
section
variable {X:Cx} {x:Str} {p pos:Pos} {e:Expr} {es:List Expr} {t:TA} {id T:String} {r:List V->Hp->VK->Prop}
def Ku (r:List V->Hp->VK->Prop) (t:TA):TE:=fun σ H Q=>t σ H fun vs H1=>r vs H1 Q
theorem Be (hc:lA X (.builtin id) r) (hg:Gl X x) (hm:X.mg x=none) (hv:bootBuiltins x=some (.builtin id)) (ha:PA X (e::es) t) (hn:x ≠ "__name__" :=by decide) (Mv:(x==("__debug__" : Str))=false:=by decide)
  (he:starEach (e::es) X.env=(false,eval e X.env)::starEach es X.env:=by rfl) (Me:(backTo pos (starEach es X.env)).any (·.1)=false:=by rfl):PE X (.Call (.Name x p) (e::es) [] pos) (Ku r t):=by
 intro pins s σ H Q I h;refine wpAny_Call_Name_kw (kM I hg hm hv ?_ hn Mv);exact PyProof.Rows.callWith_builtin1 (bX (ha pos pins s σ H _ I h) fun us s1 ⟨vs,H1,I1,r1,q1⟩=>hc pins s1 σ H1 vs us Q I1 r1 q1) he Me
theorem yR (hc:lA X (.type T) r) (hg:Gl X x) (hm:X.mg x=none) (hv:bootBuiltins x=some (.type T)) (ha:PA X (e::es) t) (hn:x ≠ "__name__" :=by decide) (Mv:(x==("__debug__" : Str))=false:=by decide)
  (he:starEach (e::es) X.env=(false,eval e X.env)::starEach es X.env:=by rfl) (Me:(backTo pos (starEach es X.env)).any (·.1)=false:=by rfl):PE X (.Call (.Name x p) (e::es) [] pos) (Ku r t):=by
 intro pins s σ H Q I h;refine wpAny_Call_Name_kw (kM I hg hm hv ?_ hn Mv);exact PyProof.Rows.callWith_type1 (bX (ha pos pins s σ H _ I h) fun us s1 ⟨vs,H1,I1,r1,q1⟩=>hc pins s1 σ H1 vs us Q I1 r1 q1) he Me
end
end L2
namespace HT
open PySem PyProof.Rows
noncomputable def lexLt:List Int->List Int->Bool
 |[],[]=>false
 |[],_::_=>true
 |_::_,[]=>false
 |x::xs,y::ys=>if x=y then lexLt xs ys else decide (x<y)
theorem lexLt_cons (x y:Int) (xs ys:List Int):lexLt (x::xs) (y::ys)=if x=y then lexLt xs ys else decide (x<y):=rfl
section
open PySem.SeqAt
open PySem.AutoSeq1 (wpAny_loadPart')
open PySem.MeetsSeq PySem.MeetsSeq2 PySem.MeetsSeq3
end
section
variable {prog:Program} {w:World} {A:Around} {E:Value->Shared->Prop} {s:Shared}
theorem cat_tup {t b:Addr} {vs ws:List Value} {Q:Value->Shared->Prop} (ht:IsTup s.heap t vs.toArray) (hb:IsTup s.heap b ws.toArray) (hv:vs≠[])
  (h1:ws=[]->Q (.ref t) s) (h2:ws≠[]->Q (.ref s.heap.objs.size) { s with heap:=s.heap.push { cls:=.type "tuple",data:=.seq (vs++ws).toArray } })
  (hsz:vs.length+ws.length<=sizeLine):wpAny (model prog w) A (binaryOp .Add (.ref t) (.ref b)) Q E s:=by
 obtain ⟨⟨cls,dd,data,sl⟩,ho,hc,n,hd⟩:=id ht;obtain ⟨⟨cls2,Ob,data2,NM⟩,ho2,hc2,n2,hd2⟩:=id hb;simp only at hc hd hc2 hd2;subst hc hd hc2 hd2;have e:vs.toArray++ws.toArray=(vs++ws).toArray:=by simp
 by_cases hw:ws=[]
 ·exact concat_meets ⟨_,ho,rfl⟩ ⟨_,ho2,rfl⟩ noFill_tuple_add seq_tuple_add PySem.F.slot_tuple_add PySem.F.entry_tuple_add (PySem.F.args_tuple_add_2 _ _)
   (tuple_addW1 t b vs.toArray ws.toArray n n2 dd Ob sl NM (by simpa using hv) (by simp [hw])) ⟨ho,ho2,h1 hw⟩
 ·refine concat_meets ⟨_,ho,rfl⟩ ⟨_,ho2,rfl⟩ noFill_tuple_add seq_tuple_add PySem.F.slot_tuple_add PySem.F.entry_tuple_add (PySem.F.args_tuple_add_2 _ _)
   (tuple_addW2 t b vs.toArray ws.toArray n n2 dd Ob sl NM (by simpa using hv) (by simpa using hw) (by rw [List.size_toArray,List.size_toArray]; exact hsz)) ⟨ho,ho2,?_⟩
  rw [e];exact h2 hw
noncomputable def sIx (n d:Nat):Option Int->Nat
 |none=>d
 |some v=>if v<0 then (v+(n:Int)).toNat else min v.toNat n
theorem sIx_none (n d:Nat):sIx n d none=d:=rfl
theorem sIx_nat (n d k:Nat):sIx n d (some (k:Int))=min k n:=by
 show (if (k:Int)<0 then ((k:Int)+(n:Int)).toNat else min (k:Int).toNat n)=min k n;rw [if_neg 0x1,Int.toNat_natCast]
end
end HT
namespace L2
open PySem PySem.Spec PyProof.Rows
abbrev TO:=St->Hp->(Option Int->Hp->Prop)->Prop
def PO (X:Cx) (e:Option Expr) (t:TO):Prop:=
 ∀(pins:List (Addr×Obj)) (s:Shared) (σ:St) (H:Hp) (Q:Option Int->Hp->Prop),Inv X pins σ H s->t σ H Q ->
  wpAny (model X.prog X.w) X.A (evalPart e X.env) (fun u s'=>∃o H',Inv X pins σ H' s'/\IsPart u o/\Q o H') X.xe s
noncomputable def CS:TO:=fun _ H Q=>Q none H
noncomputable def Ic (t:TE):TO:=fun σ H Q=>t σ H fun x H1=>∃i,x=.int i/\Q (some i) H1
section
variable {X:Cx} {e:Expr} {te:TE} {lo hi:Option Expr} {tl th:TO} {pos p2:Pos}
theorem xu:PO X none CS:=by
 intro pins s σ H Q I h;rw [evalPart_none];exact Lb ⟨none,H,I,.none,h⟩
theorem yq (h:PE X e te):PO X (some e) (Ic te):=by
 intro pins s σ H Q I hw;rw [evalPart_some];refine bX (h pins s σ H _ I hw) fun u s1 ⟨x,H1,I1,r1,q1⟩=>?_;obtain ⟨i,rfl,q⟩:=q1;obtain ⟨t,rfl⟩:=r1;exact ⟨some i,H1,I1,.int i t,q⟩
def Ky (X:Cx) (r:V->Option Int->Option Int->Hp->VK->Prop):Prop:=
 ∀(pins:List (Addr×Obj)) (s:Shared) (σ:St) (H:Hp) (x:V) (v vl vu:Value) (lo hi:Option Int) (sl:Addr) (Q:VK),Inv X pins σ H s->bA x v->s.heap.IsSliceOf sl vl vu .none->IsPart vl lo->IsPart vu hi->r x lo hi H Q ->
  ∃T id,typeLookup (.type T) "__getitem__" = pure (some (.builtin id))/\s.TypeIs v T/\wpAny (model X.prog X.w) X.A (getItem v (.ref sl)) (EP X pins σ Q) X.xe s
def KN (r:V->Option Int->Option Int->Hp->VK->Prop) (te:TE) (tl th:TO):TE:=fun σ H Q=>te σ H fun x H1=>tl σ H1 fun l H2=>th σ H2 fun u H3=>r x l u H3 Q
theorem uc {r:V->Option Int->Option Int->Hp->VK->Prop} (hr:Ky X r) (he:PE X e te) (hl:PO X lo tl) (hu:PO X hi th):PE X (.Subscript e (.Slice lo hi none p2) pos) (KN r te tl th):=by
 intro pins s σ H Q I h;refine Subscript_ (bX (he pins s σ H _ I h) fun v s1 ⟨x,H1,I1,r1,q1⟩=>?_);refine wpAny_Slice (bX (hl pins s1 σ H1 _ I1 q1) fun vl s2 ⟨l,H2,I2,pl,q2⟩=>bX (hu pins s2 σ H2 _ I2 q2) fun vu s3 ⟨u,H3,I3,pu,q3⟩=>?_);rw [evalPart_none];refine Lb ?_;have I4:Inv X pins σ H3 { s3 with heap:=s3.heap.push { cls:=.type "slice",data:=.fields #[vl,vu,.none] } }:=I3.kept (t':=s3.toks) fun b ob q=>K6 _ q;obtain ⟨T,id,hT,ht,hg⟩:=hr pins { s3 with heap:=s3.heap.push { cls:=.type "slice",data:=.fields #[vl,vu,.none] } } σ H3 x v vl vu l u s3.heap.objs.size Q I4 r1 (Heap.IsSliceOf.new ..) pl pu q3;show wpAny (model X.prog X.w) X.A (subscriptTail e (.Slice lo hi none p2) v (.ref s3.heap.objs.size)) (EP X pins σ Q) X.xe { s3 with heap:=s3.heap.push { cls:=.type "slice",data:=.fields #[vl,vu,.none] } };exact tail_any (ops:=[.ref s3.heap.objs.size,v]) ht hT hg (by with_unfolding_all rfl)
noncomputable def yW (xs:List V) (lo hi:Option Int):List V:=(xs.drop (HT.sIx xs.length 0 lo)).take (HT.sIx xs.length xs.length hi-HT.sIx xs.length 0 lo)
theorem uR (xs:List V) (lo hi:Option Int):(yW xs lo hi).length<=xs.length:=by
 unfold yW;rw [List.length_take,List.length_drop];lia
noncomputable def Jx (K:Li):R2:=fun x y H Q=>∃a b xs ys,x=.ref a/\y=.ref b/\j8 K H a xs/\j8 K H b ys/\xs≠[]/\xs.length+ys.length<=sizeLine /\
 (ys=[]->Q (.ref a) H)/\(ys≠[]->∀p,H p=none->Q (.ref p) (upd H p (.tup (xs++ys))))
theorem aS.nil_iff {xs:List V} {us:List Value} (r:aS xs us):us=[]↔xs=[]:=by
 cases r with
 |nil=>simp
 |cons _ _=>simp
theorem Dj:qO X (binaryOp .Add) (Jx X.K):=by
 intro pins s σ H x y v u Q I rx ry h;obtain ⟨a,b,xs,ys,rfl,rfl,ha,hb,hx,hz,q1,q2⟩:=h;cases rx;cases ry;obtain ⟨D',r1,p1,_⟩:=I.tuple ha;obtain ⟨M3,r2,p2,_⟩:=I.tuple hb;refine HT.cat_tup p1 p2 (fun z=>hx (r1.nil_iff.mp z)) (fun z=>⟨.ref a,H,I,rfl,q1 (r2.nil_iff.mp z)⟩) (fun z=>?_) (by rw [<-r1.length,<-r2.length]; exact hz);refine ⟨.ref s.heap.objs.size,_,I.laid (t':=s.toks) (o:=.tup (xs++ys)) (fun b ob q=>K6 _ q) (K9 _) ?_,rfl,q2 (fun w=>z (r2.nil_iff.mpr w)) _ (I.hok.fresh (K9 _))⟩;exact ⟨by rw [List.length_append]; exact hz,_,r1.append r2,IsTup.new _ _⟩
end
noncomputable def Cy (n:Nat) (i:Int):Option Nat:=if 0<=i then (if i<n then some i.toNat else none) else if -(n:Int)<=i then some (i+n).toNat else none
noncomputable def atI {α:Type} (xs:List α) (i:Int):Option α:=(Cy xs.length i).bind fun j=>xs[j]?
variable {n:Nat}
theorem Er {i:Int} {j:Nat} (h:Cy n i=some j):seqIndex? i n=some j/\j<n/\-(n:Int)<=i/\i<n:=by
 unfold Cy at h;by_cases h0:0<=i
 ·rw [if_pos h0] at h;by_cases h1:i<n
  ·rw [if_pos h1] at h;have e:i.toNat=j:=LD h;exact ⟨by rw [seqIndex_of h0 h1,e],0x1,0x1,h1⟩
  ·rw [if_neg h1] at h; cases h
 ·rw [if_neg h0] at h;by_cases h1:-(n:Int)<=i
  ·rw [if_pos h1] at h;have e:(i+n).toNat=j:=LD h;exact ⟨by rw [seqIndex_neg 0x1 h1,e],0x1,h1,0x1⟩
  ·rw [if_neg h1] at h; cases h
theorem tu {α:Type} {xs:List α} {i:Int} {v:α} (h:atI xs i=some v):∃j,seqIndex? i xs.length=some j/\xs[j]?=some v/\j<xs.length/\-(xs.length:Int)<=i/\i<xs.length:=by
 unfold atI at h;cases e:Cy xs.length i with
 |none=>rw [e] at h; cases h
 |some j=>
  rw [e] at h;obtain ⟨h1,h2,h3,h4⟩:=Er e;exact ⟨j,h1,h,h2,h3,h4⟩
def jV (b:Expr):Prop:=∀o i,subscripted b false o i=operate [o,i] (getItem o i)
def Dy (X:Cx) (r:R2):Prop:=
 ∀(value slice:Expr) (pins:List (Addr×Obj)) (s:Shared) (σ:St) (H:Hp) (x y:V) (v u:Value) (Q:VK),Inv X pins σ H s->bA x v->bA y u->r x y H Q ->
  subscripted slice false v u=operate [v,u] (getItem v u)->wpAny (model X.prog X.w) X.A (subscriptTail value slice v u) (EP X pins σ Q) X.xe s
def JW (X:Cx) (id:String) (r:V->List V->Hp->VK->Prop):Prop:=
 ∀(pins:List (Addr×Obj)) (s:Shared) (σ:St) (H:Hp) (x:V) (xs:List V) (v:Value) (us:List Value) (Q:VK),Inv X pins σ H s->bA x v->aS xs us->r x xs H Q ->
  wpAny (model X.prog X.w) X.A (call (.builtin id) (v::us)) (EP X pins σ Q) X.xe s
section
variable {X:Cx} {a b:Expr} {ta tb:TE} {pos:Pos}
theorem Dy.or {r r':R2} (h:Dy X r) (h':Dy X r'):Dy X (fun x y H Q=>r x y H Q\/r' x y H Q):=by
 intro value slice pins s σ H x y v u Q I rx ry q hs;rcases q with q|q
 ·exact h value slice pins s σ H x y v u Q I rx ry q hs
 ·exact h' value slice pins s σ H x y v u Q I rx ry q hs
theorem Bg {r:R2} (hr:Dy X r) (ha:PE X a ta) (hb:PE X b tb) (hs:jV b):PE X (.Subscript a b pos) (JI r ta tb):=by
 intro pins s σ H Q I h;exact Subscript_ (Kg ha hb I h fun v u s2 x y H2 I2 rx ry q=>hr a b pins s2 σ H2 x y v u Q I2 rx ry q (hs _ _))
noncomputable def Jo (K:Li):R2:=fun x y H Q=>∃p xs i v,x=.ref p/\y=.int i/\eN K H p xs/\atI xs i=some v/\Q v H
noncomputable def Ib (K:Li):R2:=fun x y H Q=>∃p xs i v,x=.ref p/\y=.int i/\j8 K H p xs/\atI xs i=some v/\Q v H
noncomputable def Jn:R2:=fun x y H Q=>∃z i c,x=.str z/\y=.int i/\z.length<=sizeLine/\atI z.cps.toList i=some c/\Q (.str ⟨#[c]⟩) H
theorem Fd:Dy X (Jo X.K):=by
 intro value slice pins s σ H x y v u Q I rx ry h hs;obtain ⟨p,xs,i,z,rfl,rfl,hq,he,q⟩:=h;cases rx;obtain ⟨t,rfl⟩:=ry;obtain ⟨D',r,pl,hz⟩:=I.list hq;obtain ⟨j,h1,h2,h3,h4,h5⟩:=tu he;obtain ⟨w,ew,rw'⟩:=r.get h2;have hl:=r.length;have hn:=oS;have fin:EP X pins σ Q w s:=⟨z,H,I,rw',q⟩;by_cases h0:0<=i
 ·have hj:i.toNat=j:=by
   rw [seqIndex_of h0 h5] at h1;exact LD h1
  exact item_listR pl.isList h0 0x1 (by rw [hj]; simpa using ew) fin hs
 ·have hj:(i+(D'.toArray.size:Int)).toNat=j:=by
   rw [seqIndex_neg 0x1 h4] at h1;rw [List.size_toArray,<-hl];exact LD h1
  exact subscriptTail_builtinR (x:=w) pl.isList.typeIs slot_list_getitem.lookup
   (wpAny_getItem_list_neg (Q:=fun r s'=>r=w/\EP X pins σ Q r s') pl.isList 0x1 (by rw [List.size_toArray] <;> lia) 0x1 (by rw [hj]; simpa using ew) ⟨rfl,fin⟩) hs
theorem Gn:Dy X (Ib X.K):=by
 intro value slice pins s σ H x y v u Q I rx ry h hs;obtain ⟨p,xs,i,z,rfl,rfl,hq,he,q⟩:=h;cases rx;obtain ⟨t,rfl⟩:=ry;obtain ⟨D',r,pl,hz⟩:=I.tuple hq;obtain ⟨j,h1,h2,h3,h4,h5⟩:=tu he;obtain ⟨w,ew,rw'⟩:=r.get h2;have hl:=r.length;have hn:=oS;have fin:EP X pins σ Q w s:=⟨z,H,I,rw',q⟩;exact subscriptTail_builtinR (x:=w) pl.typeIs slot_tuple_getitem.lookup
  (getItem_tuple (j:=j) (Q:=fun r s'=>r=w/\EP X pins σ Q r s') pl 0x1 0x1 (by rw [List.size_toArray,<-hl]; exact h1) (by simpa using ew) ⟨rfl,fin⟩) hs
theorem G7:Dy X Jn:=by
 intro value slice pins s σ H x y v u Q I rx ry h hs;obtain ⟨z,i,c,rfl,rfl,hz,he,q⟩:=h;obtain ⟨t,rfl⟩:=rx;obtain ⟨t',rfl⟩:=ry;obtain ⟨j,h1,h2,h3,h4,h5⟩:=tu he;have hl:z.cps.toList.length=z.length:=by simp [Str.length]
 rw [hl] at h1 h4 h5;have hn:=oS;exact tail_any (typeIs_str s z t) slot_str_getitem.lookup (getItem_str (c:=c) (by
  have e1:decide (i < -(2 ^ 63:Int))=false:=Ly 0x1;have e2:decide (i>=2 ^ 63)=false:=Ly 0x1;rw [e1,e2,Bool.or_false]) (by rw [h1]; simpa using h2) ⟨.str ⟨#[c]⟩,H,I.tok _,⟨_,rfl⟩,q⟩) hs
noncomputable def Kx (K:Li):R2:=fun x y H Q=>Jo K x y H Q\/Ib K x y H Q\/Jn x y H Q
theorem wR:Dy X (Kx X.K):=Fd.or (Gn.or G7)
theorem Inv.lst {pins:List (Addr×Obj)} {σ:St} {H:Hp} {s:Shared} {p:Addr} {xs:List V} (I:Inv X pins σ H s) (h:H p=some (.lst xs)) :
  ∃(D':List Value) (n:Nat),aS xs D'/\s.heap.get? p=some { cls:=.type "list",data:=.seq D'.toArray n }/\xs.length<=sizeLine:=by
 obtain ⟨z,D',n,r,e⟩:=I.hok p _ h;exact ⟨D',n,r,e,z⟩
theorem sT (lo hi:Option Int) (n:Nat):(sliceBounds lo hi none n).1=((HT.sIx n 0 lo:Nat):Int)/\(sliceBounds lo hi none n).2.1=((HT.sIx n n hi:Nat):Int)/\(sliceBounds lo hi none n).2.2=1:=by
 refine ⟨?_,?_,rfl⟩
 ·cases lo with
  |none=>simp [sliceBounds,HT.sIx]
  |some i=>
   simp only [sliceBounds,HT.sIx,Option.getD_none,show (1:Int)>0 by decide,if_true];by_cases h:i<0
   ·simp only [h,if_true] <;> lia
   ·simp only [h,if_false] <;> lia
 ·cases hi with
  |none=>simp [sliceBounds,HT.sIx]
  |some i=>
   simp only [sliceBounds,HT.sIx,Option.getD_none,show (1:Int)>0 by decide,if_true];by_cases h:i<0
   ·simp only [h,if_true] <;> lia
   ·simp only [h,if_false] <;> lia
theorem qy (D':List Value) (lo hi:Option Int):slicePick D'.toArray lo hi none=((D'.drop (HT.sIx D'.length 0 lo)).take (HT.sIx D'.length D'.length hi-HT.sIx D'.length 0 lo)).toArray:=by
 obtain ⟨h1,h2,h3⟩:=sT lo hi D'.toArray.size;unfold slicePick;rw [h1,h2,h3];simp only [sliceRange_one,pick_run,List.size_toArray] <;> rfl
def IQ (K:Li):V->Option Int->Option Int->Hp->VK->Prop:=fun x lo hi H Q=>∃a xs,x=.ref a/\eN K H a xs/\∀p,H p=none->Q (.ref p) (upd H p (.lst (yW xs lo hi)))
theorem xO:Ky X (IQ X.K):=by
 intro pins s σ H x v vl vu lo hi sl Q I rx hs pl pu h;obtain ⟨a,xs,rfl,hx,q⟩:=h;cases rx;obtain ⟨D',r,ht,hz⟩:=I.list hx;have hlen:=r.length;refine ⟨"list",_,slot_list_getitem.lookup,ht.isList.typeIs,?_⟩;refine wpAny_getItem_list_slice ht.isList hs pl pu .none 0x4 ?_ (by rw [List.size_toArray] <;> lia);rw [qy,<-hlen];refine ⟨.ref s.heap.objs.size,_,I.laid (t':=s.toks) (o:=.lst (yW xs lo hi)) (fun b ob q=>K6 _ q) (K9 _) ?_,rfl,q _ (I.hok.fresh (K9 _))⟩;exact ⟨Lw (uR xs lo hi) hz,_,0,(r.drop (HT.sIx xs.length 0 lo)).take (HT.sIx xs.length xs.length hi-HT.sIx xs.length 0 lo),LC _ rfl⟩
theorem mq:lA X (.builtin "len") (fun xs H Q=>∃p ys,xs=[.ref p]/\(eN X.K H p ys\/j8 X.K H p ys)/\Q (.int ys.length) H):=by
 intro pins s σ H xs us Q I r h;obtain ⟨p,ys,rfl,hq,q⟩:=h;obtain ⟨u,rfl,rx⟩:=pM r;cases rx;have hn:=oS;rcases hq with hq|hq
 ·obtain ⟨D',r',pl,hz⟩:=I.list hq;have hlen:=r'.length;exact Calls.call_len_list pl.isList (by simp only [List.size_toArray] <;> lia) ⟨.int ys.length,H,I.tok _,⟨s.toks+1,by rw [List.size_toArray,hlen]⟩,q⟩
 ·obtain ⟨D',r',pl,hz⟩:=I.tuple hq;have hlen:=r'.length;exact len_tuple pl (by simp only [List.size_toArray] <;> lia) ⟨.int ys.length,H,I.tok _,⟨s.toks+1,by rw [List.size_toArray,hlen]⟩,q⟩
theorem ti:lA X (.type "list") (fun xs H Q=>∃p ys,xs=[.ref p]/\(eN X.K H p ys\/j8 X.K H p ys)/\∀l,H l=none->Q (.ref l) (upd H l (.lst ys))):=by
 intro pins s σ H xs us Q I r h;obtain ⟨p,ys,rfl,hq,q⟩:=h;obtain ⟨u,rfl,rx⟩:=pM r;cases rx;have fin:∀(D':List Value),aS ys D'->ys.length<=sizeLine->∀(h':Heap) (c':Nat),(∀b o',s.heap.get? b=some o'->h'.get? b=some o') ->
   h'.get? s.heap.objs.size=some { cls:=.type "list",dict:=none,data:=.seq D'.toArray c',slots:=#[] }->EP X pins σ Q (.ref s.heap.objs.size) { s with heap:=h' }:=fun D' r' hz h' c' kp e=>
  ⟨.ref s.heap.objs.size,_,I.laid (t':=s.toks) kp (K9 _) (show bU X.prog X.w _ h' _ (.lst ys) from ⟨hz,D',c',r',e⟩),rfl,q _ (I.hok.fresh (K9 _))⟩
 rcases hq with hq|hq
 ·obtain ⟨D',r',pl,hz⟩:=I.list hq;have hlen:=r'.length;obtain ⟨o,ho,hc,n,hd⟩:=pl.isList;exact call_list_seq p (.inl rfl) ho hc hd (fun h' c' kp e=>fin D' r' hz h' c' kp e) (by simp only [List.size_toArray] <;> lia)
 ·obtain ⟨D',r',pl,hz⟩:=I.tuple hq;have hlen:=r'.length;obtain ⟨o,ho,hc,n,hd⟩:=pl;exact call_list_seq p (.inr rfl) ho hc hd (fun h' c' kp e=>fin D' r' hz h' c' kp e) (by simp only [List.size_toArray] <;> lia)
theorem qF:lA X (.type "tuple") (fun xs H Q=>∃p ys,xs=[.ref p]/\((eN X.K H p ys/\∀l,H l=none->Q (.ref l) (upd H l (.tup ys)))\/(j8 X.K H p ys/\Q (.ref p) H))):=by
 intro pins s σ H xs us Q I r h;obtain ⟨p,ys,rfl,h⟩:=h;obtain ⟨u,rfl,rx⟩:=pM r;cases rx;rcases h with ⟨hq,q⟩|⟨hq,q⟩
 ·obtain ⟨D',r',pl,hz⟩:=I.list hq;have hlen:=r'.length;refine call_tuple_list pl.isList (fun h' kp=>?_) (by simp only [List.size_toArray] <;> lia);have I1:Inv X pins σ H { s with heap:=h' }:=I.kept (t':=s.toks) kp;have I2:Inv X pins σ (upd H h'.objs.size (.tup ys)) { s with heap:=h'.push { cls:=.type "tuple",data:=.seq D'.toArray } }:=
   I1.laid (t':=s.toks) (fun b o e=>K6 _ e) (K9 _) (show bU X.prog X.w _ _ _ (.tup ys) from ⟨hz,D',r',IsTup.new _ _⟩)
  exact ⟨.ref h'.objs.size,_,I2,rfl,q _ (I1.hok.fresh (K9 _))⟩
 ·obtain ⟨D',r',pl,hz⟩:=I.tuple hq;exact call_tuple_same pl ⟨.ref p,H,I,rfl,q⟩
def Ks (K:Li) (T:String) (x:V) (H:Hp):Prop:=match x with
 |.str _=>T = "str"
 |.int _=>T = "int"
 |.ref p=>(T = "list" /\ ∃xs,eN K H p xs)\/(T = "tuple" /\ ∃o,K.lookup p=some o/\o.cls=.type "tuple" /\ o.dict=none) \/
   (T = "dict" /\ ((∃kvs,H p=some (.dK kvs))\/∃kvs,H p=some (.dT kvs)))\/(T = "set" /\ ∃S n,H p=some (.set S n))
 |_=>False
theorem GJ {pins:List (Addr×Obj)} {σ:St} {H:Hp} {s:Shared} {T:String} {x:V} {v:Value} (I:Inv X pins σ H s) (r:bA x v) (ty:Ks X.K T x H) :
  s.TypeIs v T/\∀a,v=.ref a->∃ob,s.heap.get? a=some ob/\ob.dict=none:=by
 cases x with
 |str z=>
  obtain ⟨t,rfl⟩:=r;cases (show T = "str" from ty);exact ⟨typeIs_str s z t,fun _ e=>nomatch e⟩
 |int i=>
  obtain ⟨t,rfl⟩:=r;cases (show T = "int" from ty);exact ⟨typeIs_int s i t,fun _ e=>nomatch e⟩
 |ref p=>
  cases r;rcases ty with ⟨rfl,xs,hq⟩|⟨rfl,o,hk,hc,hd⟩|⟨rfl,hk⟩|⟨rfl,S,n,hk⟩
  ·obtain ⟨D',_,pl,_⟩:=I.list hq;refine ⟨pl.isList.typeIs,fun a e=>?_⟩;cases e;obtain ⟨o,n,e,c,hd,_⟩:=pl;exact ⟨o,e,hd⟩
  ·refine ⟨⟨o,I.kIn p o hk,hc⟩,fun a e=>?_⟩;cases e;exact ⟨o,I.kIn _ o hk,hd⟩
  ·have z:∃o,s.heap.get? p=some o/\o.ExactDict:=by
    rcases hk with ⟨kvs,hk⟩|⟨kvs,hk⟩
    ·obtain ⟨_,_,_,_,o,_,_,e,ex,_⟩:=I.hok p _ hk;exact ⟨o,e,ex⟩
    ·obtain ⟨_,_,_,_,o,_,_,e,ex,_⟩:=I.hok p _ hk;exact ⟨o,e,ex⟩
   obtain ⟨o,e,ex⟩:=z;refine ⟨⟨o,e,ex.1⟩,fun a e2=>?_⟩;cases e2;exact ⟨o,e,ex.2.1⟩
  ·obtain ⟨o,_,_,_,e,ex,_⟩:=I.hok p _ hk;refine ⟨⟨o,e,ex.1⟩,fun a e2=>?_⟩;cases e2;exact ⟨o,e,ex.2.1⟩
 |_=>exact False.elim ty
def Kq (K:Li) (T:String) (r:V->List V->Hp->VK->Prop) (to:TE) (t:TA):TE:=fun σ H Q=>to σ H fun x H1=>Ks K T x H1/\t σ H1 fun xs H2=>r x xs H2 Q
variable {o e:Expr} {es:List Expr} {to:TE} {t:TA} {name:Str} {apos G':Pos} {T id:String} {r:V->List V->Hp->VK->Prop}
theorem ro (pa:PlainAttrs T) (slot:Slot T name id) (hty:typeOf (.builtin id)=pure (.type "method_descriptor")) (hm:JW X id r) (ho:PE X o to) (ha:PA X (e::es) t)
  (L9:attributeBase o name X.env (eval o X.env)=eval o X.env:=by rfl)
  (Mq:((backTo G' (starEach (e::es) X.env)).all (fun x=>!x.1)&&(backToKw G' (keywordEach [] X.env)).all (fun x=>x.1.isSome)
   && decide ((e::es).length+([]:List Keyword).length+(if ([]:List Keyword).isEmpty then 0 else 1)<30))=true:=by rfl)
  (L6:(apos.endLine==G'.line)=true:=by rfl) (hs:starEach (e::es) X.env=(false,eval e X.env)::starEach es X.env:=by rfl) (LX:(backTo G' (starEach es X.env)).any (·.1)=false:=by rfl) :
  PE X (.Call (.Attribute o name apos) (e::es) [] G') (Kq X.K T r to t):=by
 intro pins s σ H Q I h;refine wpAny_Call_method_late L9 Mq L6 rfl (bX (ho pins s σ H _ I h) fun v s1 ⟨x,H1,I1,r1,ty,q1⟩=>?_);obtain ⟨h1,h2⟩:=GJ I1 r1 ty;refine ⟨T,id,pa,slot,hty,h1,h2,?_⟩;have hA:=ha G' pins s1 σ H1 _ I1 q1;rw [hs] at hA ⊢;refine Calls.callWith_builtin (by show (false||(backTo G' (starEach es X.env)).any (·.1))=false; rw [LX] <;> rfl) (Calls.evalArgs_plain ?_);exact bX hA fun us s2 ⟨vs,H2,I2,r2,q2⟩=>hm pins s2 σ H2 x vs v us Q I2 r1 r2 q2
end
def Kv (X:Cx) (id:String) (r:V->List V->Hp->VK->Prop):Prop:=
 ∀(pins:List (Addr×Obj)) (s:Shared) (σ:St) (H:Hp) (x:V) (xs:List V) (v:Value) (us:List Value) (Q:VK),Inv X pins σ H s->bA x v->aS xs us->r x xs H Q ->
  wpAny (model X.prog X.w) X.A (call (.builtin id) (v::us)) (EP X pins σ Q) X.xe s
theorem aS.one:∀{x:V} {us:List Value},aS [x] us->∃u,us=[u]/\bA x u
 |_,_,.cons r .nil=>⟨_,rfl,r⟩
theorem aS.two:∀{x y:V} {us:List Value},aS [x,y] us->∃u v,us=[u,v]/\bA x u/\bA y v
 |_,_,_,.cons r (.cons q .nil)=>⟨_,_,rfl,r,q⟩
theorem aS.zero:∀{us:List Value},aS [] us->us=[]
 |_,.nil=>rfl
theorem aS.eraseIdx:∀{xs:List V} {us:List Value} (i:Nat),aS xs us->aS (xs.eraseIdx i) (us.eraseIdx i)
 |_,_,_,.nil=>.nil
 |_,_,0,.cons _ t=>t
 |_,_,i+1,.cons r t=>.cons r (aS.eraseIdx i t)
theorem aS.reverse {xs:List V} {us:List Value} (h:aS xs us):aS xs.reverse us.reverse:=by
 induction h with
 |nil=>exact .nil
 |cons r t ih=>rw [List.reverse_cons,List.reverse_cons]; exact aS.append ih (.cons r .nil)
theorem aS.rep {xs:List V} {us:List Value} (h:aS xs us):∀k:Nat,aS (List.replicate k xs).flatten (List.replicate k us).flatten
 |0=>.nil
 |k+1=>by
  rw [List.replicate_succ,List.replicate_succ,List.flatten_cons,List.flatten_cons];exact aS.append h (aS.rep h k)
theorem rH {α:Type}:∀(l:List α) (i:Nat),(l.eraseIdx i).length<=l.length
 |[],_=>K9 _
 |_::_,0=>Nat.le_succ _
 |_::r,i+1=>Nat.succ_le_succ (rH r i)
theorem rK (D':List Value):∀(k:Nat) (acc:List Value),
  List.foldl (fun x1 x2=>x1++x2) acc.toArray (List.replicate k D'.toArray)=(acc++(List.replicate k D').flatten).toArray
 |0,acc=>by simp
 |k+1,acc=>by
  have e:acc.toArray++D'.toArray=(acc++D').toArray:=by simp
  have e2:(acc++D')++(List.replicate k D').flatten=acc++(List.replicate (k+1) D').flatten:=by
   rw [List.replicate_succ,List.flatten_cons,List.append_assoc]
  rw [<-e2,<-rK D' k (acc++D'),<-e,List.replicate_succ,List.foldl_cons]
section
variable {X:Cx} {pins:List (Addr×Obj)} {σ:St} {H:Hp} {s:Shared} {l b:Addr} {xs ys zs:List V}
theorem Inv.lset {D' its':List Value} {f:Array Value->Array Value} {t':Nat} (I:Inv X pins σ H s) (hH:H l=some (.lst xs))
  (e:s.heap.get? l=some { cls:=.type "list",data:=.seq D'.toArray n }) (hf:f D'.toArray=its'.toArray) (hv:aS ys its') (hz:ys.length<=sizeLine) :
  Inv X pins σ (upd H l (.lst ys)) { s with heap:=s.heap.update l (Obj.mapSeq f),toks:=t' }:=by
 have q:=PySem.IsL.update e f;rw [hf] at q;refine I.write (x:=l) (e:=l) (by rw [hH]; exact trivial) (.inl rfl) (fun b' u hb hu=>(Heap.get?_update_other s.heap (Obj.mapSeq f) (Ne.symm hb)).trans hu) ⟨_,q⟩ ?_;exact ⟨hz,its',_,hv,q⟩
theorem Inv.lnew {D':List Value} {t':Nat} (I:Inv X pins σ H s) (hv:aS ys D') (hz:ys.length<=sizeLine) :
  Inv X pins σ (upd H s.heap.objs.size (.lst ys)) { s with heap:=s.heap.push { cls:=.type "list",data:=.seq D'.toArray },toks:=t' }:=
 I.laid (fun _ _ q=>K6 _ q) (K9 _) ⟨hz,D',0,hv,LC _ rfl⟩
theorem Inv.fresh (I:Inv X pins σ H s):H s.heap.objs.size=none:=I.hok.fresh (K9 _)
theorem Inv.lstM (I:Inv X pins σ H s) (hH:H l=some (.lst xs)):xs.length<=sizeLine/\∃(D':List Value) (n:Nat),aS xs D'/\xs.length=D'.length/\s.heap.get? l=some { cls:=.type "list",data:=.seq D'.toArray n }:=by
 obtain ⟨z,D',n,r,e⟩:=I.hok l _ hH;exact ⟨z,D',n,r,r.length,e⟩
theorem ub (h:n<=sizeLine):Builtin.List.listTooLong n=false:=by
 unfold Builtin.List.listTooLong;exact Ly 0x1
end
section
variable {X:Cx}
def xJ:V->List V->Hp->VK->Prop:=fun x vs H Q=>∃l xs y,x=.ref l/\vs=[y]/\H l=some (.lst xs)/\xs.length<sizeLine/\Q .non (upd H l (.lst (xs++[y])))
theorem mI:Kv X "list.append" xJ:=by
 intro pins s σ H x vs v us Q I rx rv h;obtain ⟨l,xs,y,rfl,rfl,hH,hz,q⟩:=h;cases rx;obtain ⟨u,rfl,ru⟩:=rv.one;obtain ⟨z,D',n,r,hl,e⟩:=I.lstM hH;refine call_meets F.slot_list_append ⟨_,e,rfl⟩ F.entry_list_append (F.args_list_append_2 _ _) (PySem.list_append l D'.toArray n u (by rw [List.size_toArray]; lia)) ⟨e,?_⟩;refine ⟨.non,_,I.lset (its':=D'++[u]) hH e 0x4 (r.append (.cons ru .nil)) ?_,rfl,q⟩;rw [List.length_append,List.length_singleton];lia
def xn:V->List V->Hp->VK->Prop:=fun x vs H Q=>∃l b xs zs,x=.ref l/\vs=[.ref b]/\H l=some (.lst xs)/\H b=some (.lst zs)/\xs.length+zs.length<=sizeLine/\Q .non (upd H l (.lst (xs++zs)))
theorem zq:Kv X "list.extend" xn:=by
 intro pins s σ H x vs v us Q I rx rv h;obtain ⟨l,b,xs,zs,rfl,rfl,hH,hB,hz,q⟩:=h;cases rx;obtain ⟨u,rfl,ru⟩:=rv.one;cases ru;obtain ⟨z,D',n,r,hl,e⟩:=I.lstM hH;obtain ⟨z2,M3,n2,r2,hl2,e2⟩:=I.lstM hB;have hsz:D'.toArray.size+M3.toArray.size<=sizeLine:=by rw [List.size_toArray,List.size_toArray]; lia
 have NP:¬(!D'.toArray.isEmpty&&Builtin.List.listTooLong (D'.toArray.size+M3.toArray.size))=true:=by
  rw [ub hsz,Bool.and_false];exact Bool.false_ne_true
 refine call_meets F.slot_list_extend ⟨_,e,rfl⟩ F.entry_list_extend (F.args_list_extend_2 _ _)
  (AutoSeq1.list_extend_list_list_0 l D'.toArray n b M3.toArray n2 NP (by rw [List.size_toArray]; lia) 0x1) ⟨e,e2,?_⟩
 refine ⟨.non,_,I.lset (its':=D'++M3) hH e 0x4 (r.append r2) ?_,rfl,q⟩;rw [List.length_append];lia
noncomputable def J3:R2:=fun x y H Q=>∃l b xs zs,x=.ref l/\y=.ref b/\H l=some (.lst xs)/\H b=some (.lst zs)/\xs.length+zs.length<=sizeLine/\∀p,H p=none->Q (.ref p) (upd H p (.lst (xs++zs)))
theorem GB:qO X (binaryOp .Add) J3:=by
 intro pins s σ H x y v u Q I rx ry h;obtain ⟨l,b,xs,zs,rfl,rfl,hH,hB,hz,q⟩:=h;cases rx;cases ry;obtain ⟨z,D',n,r,hl,e⟩:=I.lstM hH;obtain ⟨z2,M3,n2,r2,hl2,e2⟩:=I.lstM hB;refine PySem.P.add_list e e2 ?_ (by rw [List.size_toArray,List.size_toArray]; lia);have ea:D'.toArray++M3.toArray=(D'++M3).toArray:=by simp
 rw [ea];exact ⟨.ref _,_,I.lnew (t':=s.toks) (r.append r2) (by rw [List.length_append]; lia),rfl,q _ I.fresh⟩
noncomputable def JV:R2:=fun x y H Q=>∃l k xs,x=.ref l/\y=.int k/\H l=some (.lst xs)/\-(2 ^ 63)<=k/\k<2 ^ 63/\xs.length*k.toNat<=sizeLine /\
 ∀p,H p=none->Q (.ref p) (upd H p (.lst (List.replicate k.toNat xs).flatten))
theorem Du {α:Type} (xs:List α) (k:Nat):(List.replicate k xs).flatten.length=k*xs.length:=by
 induction k with
 |zero=>simp
 |succ k ih=>rw [List.replicate_succ,List.flatten_cons,List.length_append,ih,Nat.succ_mul,Nat.add_comm]
theorem GY:qO X (binaryOp .Mult) JV:=by
 intro pins s σ H x y v u Q I rx ry h;obtain ⟨l,k,xs,rfl,rfl,hH,h1,h2,hz,q⟩:=h;cases rx;obtain ⟨t,rfl⟩:=ry;obtain ⟨z,D',n,r,hl,e⟩:=I.lstM hH;have hlen:D'.toArray.size*k.toNat<=sizeLine:=by rw [List.size_toArray,<-hl]; exact hz
 have hcap:¬D'.toArray.size*k.toNat>(2 ^ 63-1) / 8:=by
  have:(sizeLine:Nat)<=(2 ^ 63-1) / 8:=by decide
  lia
 have hfit:¬(!Builtin.List.listFitsIndex k)=true:=by
  rw [fitsIndex_both h1 h2];exact Bool.false_ne_true
 have NP:¬Builtin.List.listTooLong (D'.toArray.size*k.toNat)=true:=by
  rw [ub hlen];exact Bool.false_ne_true
 have OA:List.foldl (fun x1 x2=>x1++x2) #[] (List.replicate (if D'.toArray.isEmpty=true then 0 else k.toNat) D'.toArray)=(List.replicate k.toNat D').flatten.toArray:=by
  have f0:∀m:Nat,List.foldl (fun x1 x2=>x1++x2) #[] (List.replicate m D'.toArray)=(List.replicate m D').flatten.toArray:=fun m=>by
   have:=rK D' m [];rw [List.nil_append] at this;exact this
  rw [f0];cases D' with
  |nil=>simp
  |cons a r'=>rw [if_neg 0x4]
 refine wpAny_binaryOp_repeat_ref (T:= "list") (U:= "int") 0x3 ⟨_,e,rfl⟩ (fun s'=>typeIs_int s' k t) noFill_list_mul F.fills_int_mul F.slot_int_rmul repeat_list F.slot_int_index.lookup
  (call_meets F.slot_int_rmul (typeIs_int s k t) F.entry_int_rmul (F.args_int_rmul_2 _ _) (int___rmul___int_list k t l D'.toArray n)
   ⟨e,rfl,⟨_,e,rfl⟩,call_meets F.slot_list_mul ⟨_,e,rfl⟩ F.entry_list_mul (F.args_list_mul_2 _ _) (AutoListH.list___mul___list_int_3 l D'.toArray n k t hfit hcap NP) ⟨e,?_⟩⟩)
 rw [OA];exact ⟨.ref _,_,I.lnew (t':=s.toks) (r.rep k.toNat) (by rw [Du,Nat.mul_comm]; exact hz),rfl,q _ I.fresh⟩
end
section
variable {prog:Program} {w:World} {A:Around} {E:Value->Shared->Prop} {s:Shared}
set_option maxRecDepth 100000 in
end
section
variable {X:Cx}
end
end L2
namespace Att
open PySem PySem.W PySem.Calls PyProof.Rows
theorem nP {P:Params} {h:Heap}:∀(ns:List Int) (vs:List Value),WellAll P h vs (ns.map WData.int)->IntsAre vs ns:=by
 intro ns
 induction ns with
 |nil=>
  intro vs w;rw [List.map_nil] at w;cases w;exact .nil
 |cons n ns ih=>
  intro vs w;rw [List.map_cons] at w;cases w with
  |cons a b=>
   cases a;exact .cons _ _ (ih _ b)
theorem yI {l:OpenLaw} {n:Nat} (hn:l.most=some n) {P:Params} {h:Heap} {args:List WData} {vals:List Value}
  (MZ:l.row.toRowW.claim.pre args=true) (hwl:WellAll P h vals args) :
  ∃a vs ns,vals=[Value.ref a]/\args=[WData.list (ns.map WData.int)]/\h.get? a=some { cls:=.type "list",data:=.seq vs.toArray }/\IntsAre vs ns/\ns.length<=n:=by
 have hsh:WShape.hasAll [] args [.list .int]=true:=(pre_splitW MZ).1;have hc:l.pre.holds [] { args:=args }=true:=(pre_splitW MZ).2;obtain ⟨d,r,rfl,h1,h2⟩:=hasAllW_cons hsh;obtain rfl:=hasAllW_nil h2;obtain ⟨xs,rfl,h3⟩:=hasW_list h1;obtain ⟨ns,rfl⟩:=items_int h3;have hlen:ns.length<=n:=by
  unfold OpenLaw.pre at hc;have h4:(WTm.not (.lt (.lit (.int (n:Int))) (.len (.arg 0)))).holds [] { args:=[.list (ns.map .int)] }=true:=by
   have h4:=(holds_andW hc).1;rw [hn] at h4;exact h4
  have h5:=condW_of h4 (w_not (w_lt w_lit (w_len_list (w_arg rfl))));rw [List.length_map] at h5;refine Nat.le_of_not_lt fun q=>?_;have q':(n:Int)<((ns.length:Nat):Int):=by lia
  first
   |(rw [Lz q'] at h5; exact absurd h5 0x3)
   |(simp at h5; lia)
 cases hwl with
 |cons w1 w2=>
  cases w2;cases w1 with
  |list ho hall=>exact ⟨_,_,ns,rfl,rfl,ho,nP ns _ hall,hlen⟩
theorem zI (l:OpenLaw) (args:List WData):l.row.toRowW.claim.post args (.bool true) args=true:=
 postW_of (r:=l.row.toRowW) (X:=(true==true))
  (show WShape.has [] (.bool true) .bool=true by first|rfl|decide|simp [WShape.has,WShape.arms,WShape.armsAll])
  (show (WTm.eq .res (.lit (.bool true))).value [] { args:=args,res:=some (.bool true),after:=args }=some (.bool (true==true)) from w_eq_bool (w_res rfl) w_lit) rfl
theorem attach_call {l:OpenLaw} {n:Nat} {q:Program} {loose:List Str} {XP:(Str->Option Value)->Heap->Prop} {YP:World->Heap->Prop} {d:DefRec}
  (hn:l.most=some n) (hdf:d.params.defaults=[])
  (call:∀(w:World) (s₀ s₁:Shared) (mg mb:Str->Option Value) (fa:Addr) (o:Obj) (pm cd doc:Value) (a:Addr) (vs:List Value) (ns:List Int),
   Ground q loose [] XP w s₀ mg mb s₁.heap->YP w s₁.heap ->
   s₁.heap.get? fa=some o->o.data=.func (docDef d.name d.params d.body d.scope pm cd doc)->s₁.heap.CodeRec cd d.name->mg d.name=some (.ref fa) ->
   s₁.heap.get? a=some { cls:=.type "list",data:=.seq vs.toArray }->IntsAre vs ns->ns.length<=n->s₁.gens=#[] ->
   codeAny (model l.prog w) callerA (.call (.ref fa) ⟨[.ref a],[]⟩) (fun r s'=>r=.ok (.ret (.bool true))/\OldK s₁.heap s'.heap/\s'.os=s₁.os/\AllBare s'.gens) s₁) :
  WalkO q loose XP YP l.row.toRowW d [] (fun f vs=>PySem.call f vs):=by
 intro w s₀ s₁ mg mb G Y fa o pm cd doc dV kV ho hd Ng hD hmg hg args vals as MZ hlay hrd hwl Nb;obtain rfl:dV=.none:=Dflts.none hD hdf;obtain rfl:kV=.none:=Dflts.noKw hD;obtain ⟨a,vs,ns,rfl,rfl,OZ,hints,hlen⟩:=yI hn MZ hwl;refine enter_call (codeAny_mono (call w s₀ s₁ mg mb fa o pm cd doc a vs ns G Y ho (fd_plain hd) Ng hmg OZ hints hlen hg) fun r s' hq=>?_);obtain ⟨rfl,h2,h3,h4⟩:=hq;exact ⟨.inl ⟨.bool true,.bool true,[],rfl,fun _=>rfl,.bool true,zI l _,fun _=>⟨List.Pairwise.nil,fun _ hm=>(nomatch hm)⟩⟩,h2,h3,h4⟩
section
variable {prog:Program} {w:World} {A:Around} {E:Value->Shared->Prop} {s:Shared} {K:Frag}
end
end Att
namespace L2
open PySem PySem.Spec PyProof.Rows
theorem gj:∀{vs:List Value} {ns:List Int},IntsAre vs ns->aS (ns.map V.int) vs
 |_,_,.nil=>.nil
 |_,_,.cons n t h=>.cons ⟨t,rfl⟩ (gj h)
def Hv (H:Hp):Prop:=∀b,H b=none\/∃o xs,H b=some (.frz o (.lst xs))
variable {k:Nat} {fd:FuncData} {x:Str}
theorem BV {P:Program} {w:World} {K:Li} {mg mb:Str->Option Value} {CX:zE} {fa a:Addr} {sp:Sp} {s₁:Shared} {vs:List Value} {ns:List Int}
  (KX:K.In s₁.heap) (OV:s₁.heap.Ns mainGlobals mg) (hb:s₁.heap.Ns builtinsNs mb) (hbb:∀x:Str,x ≠ "__name__" -> mb x=bootBuiltins x) (hlim:s₁.heap.NoLimit) (hg:s₁.gens=#[])
  (ha:s₁.heap.get? a=some { cls:=.type "list",data:=.seq vs.toArray }) (hi:IntsAre vs ns) (hl:ns.length<=sizeLine) (hr:Room k callerA)
  (F:∀base:Heap,K.In base->base.Ns mainGlobals mg->FnOk P w K mg base CX k fa fd [x] sp) (hbind:∀(s:Shared) (u:Value),BindsTo s fd ⟨[u],[]⟩ [(x,u)])
  (MW:∀H:Hp,Hv H->eN K H a (ns.map V.int)->sp [.ref a] H (fun v _=>v=.bl true) fun _ _ _=>False)
  (hCX:∀H e s',CX [] H s₁ (fun _ _ _=>False) e s'->False) :
  codeAny (model P w) callerA (.call (.ref fa) ⟨[.ref a],[]⟩) (fun r s'=>r=.ok (.ret (.bool true))/\OldK s₁.heap s'.heap/\s'.os=s₁.os/\AllBare s'.gens) s₁:=by
 have rv:=gj hi;have lenV:=hi.length;have core:∀H:Hp,Hv H->eN K H a (ns.map V.int)->kr P w H s₁.heap->(∀b,H b≠none->b=a)->(H a≠none->K.lookup a=none) ->
   codeAny (model P w) callerA (.call (.ref fa) ⟨[.ref a],[]⟩) (fun r s'=>r=.ok (.ret (.bool true))/\OldK s₁.heap s'.heap/\s'.os=s₁.os/\AllBare s'.gens) s₁:=by
  intro H hO hS hok hA hK;have Nr:∀{b:Addr} {o:Obj},s₁.heap.get? b=some o->H b=none->(tZ s₁.heap H).get? b=some o:=fun e n=>Cm e n;have noA:∀{b:Addr} {o:Obj} {es:Array DictEntry} {ep:Nat},s₁.heap.get? b=some o->o.data=.dict es ep->H b=none:=fun {b o es ep} e d=>by
   cases q:H b with
   |none=>rfl
   |some u=>
    have e':b=a:=hA b (by rw [q]; simp);subst e';rw [ha] at e; cases e
    have d':Data.seq vs.toArray _=Data.dict es ep:=d;cases d'
  have nsK:∀{b:Addr} {m:Str->Option Value},s₁.heap.Ns b m->(tZ s₁.heap H).Ns b m:=fun {b m} ⟨o,es,ep,e,d,r⟩=>⟨o,es,ep,Nr e (noA e d),d,r⟩;have hKb:K.In (tZ s₁.heap H):=fun b o e=>Nr (KX b o e) (by
   cases q:H b with
   |none=>rfl
   |some u=>
    have e':b=a:=hA b (by rw [q]; simp);subst e';rw [hK (by rw [q]; simp)] at e; cases e)
  have hM:Mod K mg (tZ s₁.heap H):=⟨hKb,nsK OV,⟨mb,nsK hb,hbb⟩,let ⟨mc,h1,h2⟩:=hlim; ⟨mc,nsK h1,h2⟩⟩;have e0:Env0 P w K mg (tZ s₁.heap H) callerA [] s₁ H:=⟨rfl,hM,fun b o e=>C5 e,LF (yK _ _),trivial,fun b hb=>absurd (show b∈([]:List Addr) from hb) 0x4,hok,.of_eq hg⟩;refine codeAny_mono ((F _ hKb (nsK OV)).run callerA [] s₁ H ⟨[.ref a],[]⟩ [.ref a] [.ref a] _ _ hr e0 (hbind s₁ (.ref a)) (.cons rfl .nil) (MW H hO hS)) fun r s' h=>?_;cases r with
  |error e=>exact (hCX H e s' h).elim
  |ok fl=>
   cases fl with
   |next=>exact False.elim h
   |brk=>exact False.elim h
   |cont=>exact False.elim h
   |ret u=>
    obtain ⟨v,H',os,bare,un,hok',r',q⟩:=h;have q':v=.bl true:=q;subst q';obtain rfl:u=Value.bool true:=r';refine ⟨rfl,OldK.of_keep fun b o e=>?_,os,bare⟩;cases q:H b with
    |none=>exact un.keep b o e q (by intro z; exact absurd (show b∈([]:List Addr) from z) 0x4) 0x4
    |some u=>
     rcases hO b with z|⟨ob,xs,z⟩
     ·rw [q] at z; cases z
     ·have z2:=un.frzs b ob _ z;obtain ⟨e1,_⟩:=hok b _ z;obtain ⟨e2,_⟩:=hok' b _ z2;rw [e] at e1; cases e1
      exact e2
 cases hk:K.lookup a with
 |some o=>
  have e:=KX a o hk;rw [ha] at e;cases e;refine core (fun _=>none) (fun _=>.inl rfl) (.inr ⟨_,vs.toArray,_,hk,rfl,rfl,rfl,by rw [List.size_toArray,lenV]; exact hl,by simpa using rv⟩) (fun b u z=>by have z':(none:Option HO)=some u:=z; cases z') (fun b z=>absurd rfl z) fun z=>absurd rfl z
 |none=>
  refine core (fun b=>if b=a then some (.frz { cls:=.type "list",data:=.seq vs.toArray } (.lst (ns.map V.int))) else none) (fun b=>?_) (.inl (.inr ⟨{ cls:=.type "list",data:=.seq vs.toArray },if_pos rfl⟩)) (fun b u z=>?_) (fun b z=>?_) fun _=>hk
  ·by_cases hb:b=a
   ·exact .inr ⟨_,_,if_pos hb⟩
   ·exact .inl (if_neg hb)
  ·by_cases hb:b=a
   ·have z':=(if_pos hb).symm.trans z;cases z';subst hb;exact ⟨ha,by rw [List.length_map]; exact hl,vs,_,rv,ha⟩
   ·have z':=(if_neg hb).symm.trans z;cases z'
  ·by_cases hb:b=a
   ·exact hb
   ·exact absurd (if_neg hb) z
theorem walk_of {l:PySem.W.OpenLaw} {n:Nat} {q:Program} {loose:List Str} {XP:(Str->Option Value)->Heap->Prop} {YP:World->Heap->Prop} {d:DefRec} {K:Params->Li} {CX:World->zE} {sp:World->Sp} 
  (hn:l.most=some n) (hn2:n<=sizeLine) (hdf:d.params.defaults=[]) (hr:Room k callerA)
  (hY:∀(w:World) (h:Heap),YP w h->(K w.params).In h)
  (F:∀(w:World) (mg:Str->Option Value) (fa:Addr) (h:Heap),(K w.params).In h->h.Ns mainGlobals mg->mg d.name=some (.ref fa) ->
   ∃fd:FuncData,(∀(s:Shared) (u:Value),BindsTo s fd ⟨[u],[]⟩ [(x,u)]) /\
    ∀base:Heap,(K w.params).In base->base.Ns mainGlobals mg->FnOk l.prog w (K w.params) mg base (CX w) k fa fd [x] (sp w))
  (MW:∀(w:World) (H:Hp) (a:Addr) (ns:List Int),ns.length<=n->Hv H->eN (K w.params) H a (ns.map V.int)->sp w [.ref a] H (fun v _=>v=.bl true) fun _ _ _=>False)
  (hCX:∀(w:World) (H:Hp) (s:Shared) (e:Value) (s':Shared),CX w [] H s (fun _ _ _=>False) e s'->False) :
  PySem.W.WalkO q loose XP YP l.row.toRowW d [] (fun f vs=>PySem.call f vs):=by
 refine Att.attach_call hn hdf fun w s₀ s₁ mg mb fa o pm cd doc a vs ns G Y ho hd Ng hmg OZ hints hlen hg=>?_;have KX:=hY w _ Y;obtain ⟨fd,hb,hF⟩:=F w mg fa _ KX G.T.g hmg;exact BV KX G.T.g G.T.b G.T.builtins G.T.nolimit hg OZ hints (Lw hlen hn2) hr hF hb (fun H hO hS=>MW w H a ns hlen hO hS) fun H e s'=>hCX w H s₁ e s'
noncomputable def lR (s:Stmt) (j:Nat):Stmt:=match s with
 |.ClassDef _ _ _ body _ _ _ _ _ _ _=>body.getD j (.Pass ⟨0,0,0,0⟩)
 |_=>.Pass ⟨0,0,0,0⟩
noncomputable def eP (s:Stmt):Arguments:=match s with
 |.FunctionDef _ a _ _ _ _ _ _ _ _=>a
 |_=>{ posonlyargs:=[],args:=[],vararg:=none,kwonlyargs:=[],kw_defaults:=[],kwarg:=none,defaults:=[] }
noncomputable def dv (s:Stmt):List Stmt:=match s with
 |.FunctionDef _ _ b _ _ _ _ _ _ _=>b
 |_=>[]
noncomputable def ak (s:Stmt):Scope:=match s with
 |.FunctionDef _ _ _ _ _ _ sc _ _ _=>sc
 |_=>{ kind:=.function,names:=[],isGenerator:=false,isCoroutine:=false }
abbrev tK:zE:=fun _ _ _ _ _ _=>False
abbrev E0:XK:=fun _ _ _=>False
structure Fun (K:Li) (x qual:Str) (st:Stmt) (f:Addr) (fd:FuncData):Prop where
 ex:∃(oc:Value) (od:Option Addr) (kV doc pm:Value) (an:Option Addr) (LM ct:Value) (NB:Array (Option Value)),
  fd=PySem.W.fnOf x qual (eP st) (dv st) (ak st) .none kV doc pm an LM ct/\K.lookup f=some ⟨oc,od,.func fd,NB⟩/\PySem.W.codeIn K LM qual=true
 kp:PySem.W.keepIn K (.ref f)=true
section
variable {P:Program} {w:World} {K:Li} {mg:Str->Option Value} {base:Heap}
variable {qual:Str} {st:Stmt} {f:Addr}
theorem Fun.ok {N ps:List Str} {sp:Sp} (F:Fun K x qual st f fd) (S:FnScope N ps (ak st)) (len:∀vs H Q E,sp vs H Q E->vs.length=ps.length)
  (NL:∀(LM:Value) (A:Around) (outer:List Env) (s:Shared) (H:Hp) (vs:List V) (Q:VK) (E:XK),Room k (A.deeper (envOfC qual (ak st) s.heap.objs.size f LM))->sp vs H Q E ->
   ∃t,qj (eY tK P w K mg base N qual (ak st) f LM A outer s H E).nox (dv st) t/\t { nx:=fun _ H'=>Q .non H',rt:=Q } (start N vs) H):FnOk P w K mg base tK (k+1) f fd ps sp:=by
 obtain ⟨oc,od,kV,doc,pm,an,LM,ct,NB,rfl,lk,Ng⟩:=F.ex;refine Ad lk Ng S len fun A outer s H vs Q E hr MW=>?_;obtain ⟨t,h,q⟩:=NL LM A outer s H vs Q E hr MW;exact ⟨t,h.nox,q⟩
theorem Fun.binds {ps:List Str} (F:Fun K x qual st f fd)
  (h:∀(kV doc pm:Value) (an:Option Addr) (LM ct:Value) (us:List Value),us.length=ps.length->bindArgs (PySem.W.fnOf x qual (eP st) (dv st) (ak st) .none kV doc pm an LM ct) ⟨us,[]⟩=pure (ps.zip us)):f6 K fd ps []:=by
 obtain ⟨oc,od,kV,doc,pm,an,LM,ct,NB,rfl,lk,Ng⟩:=F.ex;exact .all (h kV doc pm an LM ct)
theorem kX {oc:Value} {od an:Option Addr} {NB:Array (Option Value)} {kV doc pm LM ct:Value} (l:K.lookup f=some ⟨oc,od,.func (PySem.W.fnOf x qual (eP st) (dv st) (ak st) .none kV doc pm an LM ct),NB⟩)
  (c:PySem.W.codeIn K LM qual=true) (k:PySem.W.keepIn K (.ref f)=true):Fun K x qual st f (PySem.W.fnOf x qual (eP st) (dv st) (ak st) .none kV doc pm an LM ct):=⟨⟨oc,od,kV,doc,pm,an,LM,ct,NB,rfl,l,c⟩,k⟩
end
section
variable {X:Cx}
theorem pv (i:Nat) {pos:Pos} (hN:X.N[i]?=some x:=by rfl) (hv:JA X.env.scope x:=by first|exact Or.inl rfl|exact Or.inr (Or.inl rfl)|exact Or.inr (Or.inr rfl)) (hd:(x==("__debug__" : Str))=false:=by decide)
  (Ng:(x==("__classdict__" : Str))=false:=by decide):PE X (.Name x pos) (gy i):=G2 hN hv hd Ng
end
theorem vL {A B:Prop} (h:B):if false=true then A else B:=by
 rw [if_neg Bool.false_ne_true];exact h
theorem wG {A B:Prop} (h:A):if true=true then A else B:=by
 rw [if_pos rfl];exact h
def aE (H H':Hp):Prop:=∀b o,H b=some o->H' b=some o
theorem aE.refl (H:Hp):aE H H:=fun _ _ h=>h
theorem aE.trans {H H1 H2:Hp} (a:aE H H1) (b:aE H1 H2):aE H H2:=fun c o h=>b c o (a c o h)
theorem aE.free {H H':Hp} (e:aE H H') {l:Addr} (h:H' l=Option.none):H l=Option.none:=by
 cases q:H l with
 |none=>rfl
 |some o=>
  rw [e l o q] at h;cases h
theorem aE.seq {K:Li} {H H':Hp} {a:Addr} {xs:List V} (e:aE H H') (h:eN K H a xs):eN K H' a xs:=by
 rcases h with (h|⟨o,h⟩)|h
 ·exact .inl (.inl (e _ _ h))
 ·exact .inl (.inr ⟨o,e _ _ h⟩)
 ·exact .inr h
end L2
set_option maxHeartbeats 4000000
namespace L2
open PySem PySem.Spec PyProof.Rows
noncomputable def fY (cells:List (Str×Addr)):List (Str×NameKind)->List (Str×Addr)->List (Str×Addr)
 |[],acc=>acc
 |(n,k)::r,acc=>if (k==NameKind.free)=true then (match cells.lookup n with|some c=>fY cells r ((n,c)::acc)|none=>fY cells r acc) else fY cells r acc
theorem pq {env:Env}:∀(names:List (Str×NameKind)) (acc:List (Str×Addr)),(∀y∈names,y.2=.free->∃c,env.cells.lookup y.1=some c) ->
  (forIn names acc fun (x:Str×NameKind) (r:List (Str×Addr))=>(do
   if (x.2==NameKind.free)=true then do
    let c <-cellOf env x.1
    pure (ForInStep.yield ((x.1,c)::r))
   else pure (ForInStep.yield r):Sem (ForInStep (List (Str×Addr)))))=pure (fY env.cells names acc)
 |[],acc,_=>rfl
 |(n,k)::r,acc,h=>by
  rw [List.forIn_cons];by_cases hk:k=.free
  ·subst hk;obtain ⟨c,hc⟩:=h (n,.free) K5 rfl;have e1:cellOf env n=pure c:=by unfold cellOf; rw [show env.cells.lookup n=some c from hc]
   simp only [beq_self_eq_true,if_true,e1,pure_bind,fY];rw [show env.cells.lookup n=some c from hc];exact pq r _ fun y hy=>h y (K3 _ hy)
  ·have hb:(k==NameKind.free)=false:=by simpa using hk
   simp only [hb,Bool.false_eq_true,if_false,pure_bind,fY];exact pq r _ fun y hy=>h y (K3 _ hy)
theorem yE {scope:Scope} {env:Env} (h:∀y∈scope.names,y.2=.free->∃c,env.cells.lookup y.1=some c):closureFor scope env=pure (fY env.cells scope.names []):=by
 have e:=pq (env:=env) scope.names [] h;unfold closureFor;rw [<-bind_pure (pure (fY env.cells scope.names []):Sem (List (Str×Addr))),<-e]
theorem gT {h:Heap} {b:Addr} {n:Nat} {o:Obj} (h1:h.get? b=some o) (h2:h.objs.size<=n):b≠n:=fun z=>absurd (Lc h1) (by rw [z]; exact Nat.not_lt.mpr h2)
theorem dR {a:Nat} {b:Addr} {n:Nat} (h1:b<a) (h2:a<=n):b≠n:=fun z=>absurd h1 (by rw [z]; exact Nat.not_lt.mpr h2)
theorem cb {cells:List (Str×Addr)} {x:Str} {c:Addr}:∀{names:List (Str×NameKind)} {acc:List (Str×Addr)},(∀d,acc.lookup x=some d->cells.lookup x=some d)->(fY cells names acc).lookup x=some c->cells.lookup x=some c
 |[],acc,ha,h=>ha c h
 |(n,k)::r,acc,ha,h=>by
  unfold fY at h;split at h
  ·split at h
   ·rename_i d hd;refine cb (names:=r) (fun e he=>?_) h;by_cases hx:x=n
    ·subst hx;simp only [List.lookup_cons,beq_self_eq_true] at he;rw [hd]; exact he
    ·have hb:(x==n)=false:=by simpa using hx
     simp only [List.lookup_cons,hb] at he;exact ha e he
   ·exact cb (names:=r) ha h
  ·exact cb (names:=r) ha h
theorem jX {cells:List (Str×Addr)} {x:Str}:∀{names:List (Str×NameKind)} {acc:List (Str×Addr)},(∃d,acc.lookup x=some d)->∃c,(fY cells names acc).lookup x=some c
 |[],acc,h=>h
 |(n,k)::r,acc,h=>by
  unfold fY;split
  ·split
   ·rename_i d hd;refine jX (names:=r) ?_;by_cases hx:x=n
    ·subst hx; exact ⟨d,by simp [List.lookup_cons]⟩
    ·have hb:(x==n)=false:=by simpa using hx
     obtain ⟨e,he⟩:=h;exact ⟨e,by simpa [List.lookup_cons,hb] using he⟩
   ·exact jX (names:=r) h
  ·exact jX (names:=r) h
theorem j9 {cells:List (Str×Addr)} {x:Str} {c:Addr} (hc:cells.lookup x=some c):∀{names:List (Str×NameKind)} {acc:List (Str×Addr)},(x,NameKind.free)∈names->∃d,(fY cells names acc).lookup x=some d
 |[],_,h=>nomatch h
 |(n,k)::r,acc,h=>by
  rcases Lj.mp h with e|h
  ·cases e;unfold fY;rw [if_pos 0x4];rw [hc];exact jX ⟨c,by simp [List.lookup_cons]⟩
  ·unfold fY;split
   ·split <;> exact j9 hc (names:=r) h
   ·exact j9 hc (names:=r) h
theorem f7 {env:Env} {x:Str}:∀{names:List (Str×NameKind)} {k:NameKind},
  (names.map fun (n,k)=>if (k==NameKind.free&&env.scope.kind==.function&&env.kindOf n==some .cell) then (n,NameKind.cell) else (n,k)).lookup x=some k ->
  names.lookup x=some k\/(k=.cell/\names.lookup x=some .free)
 |[],k,h=>by simp at h
 |(n,k0)::r,k,h=>by
  have ih:=@f7 env x r k;rw [List.map_cons] at h;by_cases hx:x=n
  ·subst hx;by_cases hc:(k0==NameKind.free&&env.scope.kind==.function&&env.kindOf x==some .cell)=true
   ·simp only [hc,if_true,List.lookup_cons,beq_self_eq_true] at h;have h0:k0=.free:=by
     simp only [Bool.and_eq_true,beq_iff_eq] at hc;exact hc.1.1
    subst h0;cases h;exact .inr ⟨rfl,by simp [List.lookup_cons]⟩
   ·have MG:(k0==NameKind.free&&env.scope.kind==.function&&env.kindOf x==some .cell)=false:=by simpa using hc
    simp only [MG,Bool.false_eq_true,if_false,List.lookup_cons,beq_self_eq_true] at h;cases h;exact .inl (by simp [List.lookup_cons])
  ·have hb:(x==n)=false:=by simpa using hx
   have e1:∀(c:Bool),List.lookup x ((if c=true then (n,NameKind.cell) else (n,k0))::(r.map fun (n,k)=>if (k==NameKind.free&&env.scope.kind==.function&&env.kindOf n==some .cell) then (n,NameKind.cell) else (n,k)))=List.lookup x (r.map fun (n,k)=>if (k==NameKind.free&&env.scope.kind==.function&&env.kindOf n==some .cell) then (n,NameKind.cell) else (n,k)):=fun c=>by
    cases c <;> simp [List.lookup_cons,hb]
   have h':=(e1 _).symm.trans h;rcases ih h' with q|⟨q1,q2⟩
   ·exact .inl (by simpa [List.lookup_cons,hb] using q)
   ·exact .inr ⟨q1,by simpa [List.lookup_cons,hb] using q2⟩
theorem fL {x:Str} {k:NameKind}:∀{names:List (Str×NameKind)},names.lookup x=some k->(x,k)∈names
 |[],h=>by simp at h
 |(n,k0)::r,h=>by
  by_cases hx:x=n
  ·subst hx;simp only [List.lookup_cons,beq_self_eq_true] at h;cases h; exact K5
  ·have hb:(x==n)=false:=by simpa using hx
   simp only [List.lookup_cons,hb] at h;exact K3 _ (fL h)
noncomputable def jA (k:Nat) (js:List Nat) (σ:St):St:=List.replicate k none++js.map fun j=>(σ[j]?).join
noncomputable def aQ (X:Cx) (N':List Str) (scope:Scope) (C:Addr) (s₂:Shared) (H₂:Hp) (fp:List Addr):Cx where
 prog:=X.prog
 w:=X.w
 K:=X.K
 mg:=X.mg
 base:=X.base
 A:=X.A
 N:=N'
 s₀:=s₂
 H₀:=H₂
 env:=compEnvC scope (fY X.env.cells scope.names []) C X.env
 outer:=X.stack
 stack:=X.stack
 ex:=fp
 fn:=fun _=>false
 calm:=X.calm
 pn:=[]
 xe:=fun _ _=>False
structure CompFit (X:Cx) (k:Nat) (js:List Nat) (N':List Str) (scope:Scope):Prop where
 kind:scope.kind=.function
 nocell:∀y∈scope.names,y.2≠.cell
 loc:∀y∈scope.names,y.2=.local->scope.names.lookup y.1=some .local
 free:∀y∈scope.names,y.2=.free->X.env.kindOf y.1=some .cell\/X.env.kindOf y.1=some .free
 len:N'.length=k+js.length
 at':∀(i:Nat) (x:Str),N'[i]?=some x->k<=i->∃j,js[i-k]?=some j/\X.N[j]?=some x/\(X.env.kindOf x=some .cell\/X.env.kindOf x=some .free)/\scope.names.lookup x=some .free
section
variable {X:Cx} {pins:List (Addr×Obj)} {σ:St} {H:Hp} {s:Shared} {k:Nat} {js:List Nat} {N':List Str} {scope:Scope}
theorem DK {C:Addr} {fp:List Addr} (I:Inv X pins σ H s) (S:CompFit X k js N' scope) (hC:s.heap.objs.size<=C) (hf:∀b∈fp,lM X pins H b/\b<s.heap.objs.size):(aQ X N' scope C s H fp).Ok where
 mod:=I.ok.mod
 kind:=S.kind
 glob:=I.ok.glob
 blt:=I.ok.blt
 above:=hC
 inj:=fun x y c h1 h2=>I.ok.inj x y c (cb (fun d hd=>by simp at hd) h1) (cb (fun d hd=>by simp at hd) h2)
 has:=fun x hx=>by
  have hx':(relabel scope X.env).names.lookup x=some .cell\/(relabel scope X.env).names.lookup x=some .free:=hx;have Mj:scope.names.lookup x=some .free:=by
   rcases hx' with h|h
   ·rcases f7 h with q|⟨_,q⟩
    ·exact absurd rfl (S.nocell _ (fL q))
    ·exact q
   ·rcases f7 h with q|⟨e,_⟩
    ·exact q
    ·cases e
  obtain ⟨c,hc⟩:=I.ok.has x (S.free _ (fL Mj) rfl);exact j9 hc (fL Mj)
 cab:=fun x c h _=>nomatch h
 hd:=I.ok.hd
 frames:=I.ok.frames
 stk:=.inl rfl
 exf:=fun b hb=>⟨fun e=>absurd (hf b hb).2 (by have e':b=C:=e; rw [e']; exact Nat.not_lt.mpr hC),fun x c h=>(hf b hb).1.2.2.2.2.1 x c (cb (fun d hd=>by simp at hd) h)⟩
 bs:=I.bs
 bsz:=Lw I.ok.bsz I.sz
 noex:=fun b o e hb=>by
  rcases (hf b hb).1.2.2.2.1 with z|z
  ·exact I.ok.noex b o e z
  ·exact absurd (Lx (Lc e) (Lw I.ok.bsz z)) (Nat.lt_irrefl _)
 exfs:=fun b hb z=>by
  rcases Lj.mp (I.stkSub b z) with e|e
  ·exact (hf b hb).1.2.1 e
  ·exact (hf b hb).1.2.2.1 e
 funs:=I.stack
 frf:=I.stkFree
theorem pF {C:Addr} {fp:List Addr} {h₁:Heap} {tk:Nat} {m:Str->Option Value} (I:Inv X pins σ H s) (S:CompFit X k js N' scope) (hC:s.heap.objs.size<=C) (hf:∀b∈fp,lM X pins H b/\b<s.heap.objs.size)
  (old:∀b o,s.heap.get? b=some o->h₁.get? b=some o) (hn:h₁.Ns C m):Inv (aQ X N' scope C s H fp) [] (jA k js σ) H { s with heap:=h₁,toks:=tk }:=by
 refine ⟨DK I S hC hf,rfl,I.bare,Un.kept old,⟨m,hn,fun i x v h1 h2 h3=>?_⟩,fun x c h=>?_,I.hok.fresh hC,fun x c h=>I.freeC x c (cb (fun d hd=>by simp at hd) h),fun p hp=>absurd (show p∈([]:List (Addr×Obj)) from hp) 0x4,I.hok.kept old,?_⟩
 ·have hi:k<=i:=by
   by_cases hi:k<=i
   ·exact hi
   ·unfold jA at h2;rw [List.getElem?_append_left (by simp; lia),List.getElem?_replicate] at h2;split at h2 <;> cases h2
  obtain ⟨j,hj,hN,hk,Mj⟩:=S.at' i x h1 hi;have hσ:σ[j]?=some (some v):=by
   unfold jA at h2;rw [List.getElem?_append_right (by simpa using hi),List.length_replicate,List.getElem?_map,hj] at h2;simp only [Option.map_some] at h2;have NQ:(σ[j]?).join=some v:=LD h2;cases e:σ[j]? with
   |none=>rw [e] at NQ; cases NQ
   |some z=>rw [e] at NQ; simp only [Option.join] at NQ; rw [<-NQ]; rfl
  obtain ⟨m0,hn0,hl⟩:=I.loc;have hv:JA X.env.scope x:=by
   rcases hk with h|h
   ·exact .inr (.inl h)
   ·exact .inr (.inr h)
  obtain ⟨u,r,l⟩:=hl j x v hN hσ hv;refine ⟨u,r,?_⟩;rcases l with ⟨hk',_⟩|⟨_,c,hc,MJ⟩
  ·rcases hk with h|h <;> (rw [hk'] at h; cases h)
  ·obtain ⟨d,hd⟩:=j9 (names:=scope.names) (acc:=[]) hc (fL Mj);have OH:d=c:=LD ((cb (fun d hd=>by simp at hd) hd).symm.trans hc);subst OH;refine .inr ⟨?_,d,hd,MJ.keeps old⟩;have h3':(relabel scope X.env).names.lookup x=some .local\/(relabel scope X.env).names.lookup x=some .cell\/(relabel scope X.env).names.lookup x=some .free:=h3;rcases h3' with h|h|h
   ·rcases f7 h with q|⟨e,_⟩
    ·rw [Mj] at q; cases q
    ·cases e
   ·exact .inl h
   ·exact .inr h
 ·obtain ⟨v,hv⟩:=I.cell x c (cb (fun d hd=>by simp at hd) h);exact ⟨v,hv.keeps old⟩
 ·unfold jA;show _=N'.length;rw [List.length_append,List.length_replicate,List.length_map,S.len]
end
section
variable {prog:Program} {w:World} {A:Around} {R:Result->Shared->Prop} {s:Shared}
def FG:Value->Shared->Prop:=fun _ _=>False
theorem pj {elt target iter:Expr} {ifs:List Expr} {scope:Scope} {pos:Pos} {it acc:Value} {env:Env} (I:Nat->Shared->Prop)
  (turn:∀n s,I n s->wpAny (model prog w) A (pyNext it) (fun r s₁=>match r with
   |none=>R (.ok .next) s₁
   |some v=>wpAny (model prog w) A (letOwnedTupleGo target it v) (fun _ s₁'=>wpAny (model prog w) A (assign target env v) (fun _ s₂=>
     wpAny (model prog w) A (forIn ifs true fun c r=>if r=true then (do let ok <-isTrue c env (eval c env); pure (ForInStep.yield ok)) else pure (ForInStep.yield r)) (fun ok s₃=>
      if ok=true then wpAny (model prog w) A (eval elt env) (fun x s₄=>wpAny (model prog w) A (call (.builtin "list.append") [acc,x]) (fun _ s₅=>∃m,m<n/\I m s₅) FG s₄) FG s₃
      else ∃m,m<n/\I m s₃) FG s₂) FG s₁') FG s₁) FG s)
  (n:Nat) (h:I n s):codeAny (model prog w) A (.compLoop (.ListComp elt [⟨target,iter,ifs,0⟩] scope pos) 0 it acc env) R s:=by
 refine codeAny_loop rfl I (fun n s hI=>?_) n h;refine wpAny_noted (m:=compTurn (.ListComp elt [⟨target,iter,ifs,0⟩] scope pos) 0 it acc env) ?_;rw [compTurn_list];refine La (wpAny_standAt (La (wpAny_mono (turn n s hI) (fun r s₁ h₁=>?_) fun _ _ h'=>h'.elim)));cases r with
 |none=>exact Lb h₁
 |some v=>
  refine La (wpAny_mono h₁ (fun _ s₁' h₁'=>?_) fun _ _ h'=>h'.elim);refine La (wpAny_mono h₁' (fun _ s₂ h₂=>La (wpAny_mono h₂ (fun ok s₃ h₃=>?_) fun _ _ h'=>h'.elim)) fun _ _ h'=>h'.elim);cases ok with
  |false=>exact Lb ⟨rfl,h₃⟩
  |true=>
   refine La (La (wpAny_mono h₃ (fun x s₄ h₄=>?_) fun _ _ h'=>h'.elim));exact La (wpAny_mono h₄ (fun _ s₅ h₅=>Lb (Lb ⟨rfl,h₅⟩)) fun _ _ h'=>h'.elim)
end
def PF (X:Cx) (ifs:List Expr) (t:TT):Prop:=
 ∀(pins:List (Addr×Obj)) (s:Shared) (σ:St) (H:Hp) (Q:Bool->Hp->Prop),Inv X pins σ H s->t σ H Q ->
  wpAny (model X.prog X.w) X.A (forIn ifs true fun c r=>if r=true then (do let ok <-isTrue c X.env (eval c X.env); pure (ForInStep.yield ok)) else pure (ForInStep.yield r)) (TP X pins σ Q) X.xe s
def J2:TT:=fun _ H Q=>Q true H
theorem FW {X:Cx}:PF X [] J2:=fun _ _ _ H _ I h=>wpAny_tests_nil ⟨H,I,h⟩
theorem k7 {X:Cx} {c:Expr} {t:TT} (h:PT X c t):PF X [c] t:=fun pins s σ H Q I hw=>wpAny_tests_one (h pins s σ H Q I hw)
def xo (wi:TI) (k:Nat) (js:List Nat) (g:TG) (tc:TT) (te:TE):TE:=fun σ H Q=>wi σ H fun J H1=>∃W:Nat->Nat->St->Hp->List V->Prop,(∃m,W 0 m (jA k js σ) H1 [])/\∀i m σ' H' xs,W i m σ' H' xs ->
 (J.stop i H'/\xs.length<=sizeLine/\∀p,H' p=none->Q (.ref p) (upd H' p (.lst xs))) \/
 (J.go i H'/\xs.length<sizeLine/\∀x H2,J.yld i H' x H2->g x σ' H2 fun σ2 H3=>tc σ2 H3 fun b H4=>if b=true then te σ2 H4 fun v H5=>∃m',m'<m/\W (i+1) m' σ2 H5 (xs++[v]) else ∃m',m'<m/\W (i+1) m' σ2 H4 xs)
section
variable {X:Cx} {k:Nat} {js:List Nat} {N':List Str} {scope:Scope} {elt tg iter:Expr} {ifs:List Expr} {pos:Pos} {wi:TI} {g:TG} {tc:TT} {te:TE}
theorem EV (S:CompFit X k js N' scope) (hc:X.calm=true) (hi:PI X tg iter wi)
  (hg:∀C s₂ H₂ fp,PG (aQ X N' scope C s₂ H₂ fp) tg g) (hf:∀C s₂ H₂ fp,PF (aQ X N' scope C s₂ H₂ fp) ifs tc) (he:∀C s₂ H₂ fp,PE (aQ X N' scope C s₂ H₂ fp) elt te)
  (hs:∀x,foldedSetIterable iter X.env x=pure x:=by intro _; rfl):PE X (.ListComp elt [⟨tg,iter,ifs,0⟩] scope pos) (xo wi k js g tc te):=by
 intro pins s σ H Q I h;rw [eval_ListComp];refine wpAny_comprehension_free (use:=none) rfl hs (yE fun y hy hk=>I.ok.has y.1 (S.free y hy hk)) S.kind S.loc ?_;refine bX (hi pins s σ H _ I h) fun v s1 h1=>bX h1 fun itv s₂ h2=>?_;obtain ⟨it,fp,tn,J,H₂,rfl,I2,T,LP,f2,W,⟨m0,w0⟩,turn⟩:=h2;have N7:∀b∈fp,b<s₂.heap.objs.size:=fun b hb=>by obtain ⟨o,e,_⟩:=T.obj 0 _ LP b hb; exact Lc e
 refine wpAny_newObj_type (wpAny_newFunctionEnv S.nocell (by intro y hy; simp at hy) (fun h₁ Nk MT=>?_) S.kind);dsimp only at Nk MT ⊢;generalize hH2:s₂.heap.push { cls:=.type "list",dict:=none,data:=.seq ([]:List Value).toArray }=G at Nk MT ⊢;have hC:G.objs.size=s₂.heap.objs.size+1:=by rw [<-hH2,Heap.size_push]
 have N1:s₂.heap.objs.size≠G.objs.size:=by lia
 have MN:s₂.heap.objs.size<=G.objs.size:=by lia
 have old:∀b o,s₂.heap.get? b=some o->h₁.get? b=some o:=fun b o e=>MT.extBut b o (gT e MN) (K6 _ (hH2▸K6 _ e));have OE:h₁.get? s₂.heap.objs.size=some { cls:=.type "list",data:=.seq ([]:List Value).toArray }:=MT.extBut _ _ N1 (K6 _ (hH2▸LC _ rfl));have NX:∀b∈fp,lM X pins H₂ b/\b<s₂.heap.objs.size:=fun b hb=>⟨f2 b hb,N7 b hb⟩;have I0:∀tk,Inv (aQ X N' scope G.objs.size s₂ H₂ fp) [] (jA k js σ) H₂ { s₂ with heap:=h₁,toks:=tk }:=fun tk=>pF I2 S MN NX old Nk;generalize hD:s₂.heap.objs.size=D at *;have Nj:∀{H':Hp} {s':Shared} {σ':St} {pp:List (Addr×Obj)} {o:Obj},Inv (aQ X N' scope G.objs.size s₂ H₂ fp) (pp++[(D,o)]) σ' H' s'->H' D=none/\s'.heap.get? D=some o:=fun {H' s' σ' pp o} J=>by
  have q:=J.pin (D,o) (K7 _ (K7 _ (Lm.mpr rfl)));exact ⟨q.2.1,q.1⟩
 have OS:D∉ix X.stack:=fun z=>by
  obtain ⟨_,o,ho,_⟩:=I2.stack.mem z;exact gT ho (LF hD) rfl
 have Na:∀x c,(aQ X N' scope G.objs.size s₂ H₂ fp).env.cells.lookup x=some c->c≠D:=fun x c e z=>by
  obtain ⟨v,q⟩:=I2.cell x c (cb (fun d hd=>by simp at hd) e);exact dR q.lt (LF hD) z
 have Mx:∀{H':Hp} {pp:List (Addr×Obj)},(∀b∈fp,H' b=none)->(∀p∈pp,p.1=D)->∀b∈fp,lM (aQ X N' scope G.objs.size s₂ H₂ fp) pp H' b:=fun {H' pp} hn hp b hb=>by
  refine ⟨hn b hb,fun z=>?_,fun z=>?_,.inl hb,fun x c e=>(NX b hb).1.2.2.2.2.1 x c (cb (fun d hd=>by simp at hd) e),fun p M8 z=>?_⟩
  ·exact dR (N7 b hb) MN z
  ·rcases Lj.mp (I2.stkSub b z) with e|e
   ·exact (NX b hb).1.2.1 e
   ·exact (NX b hb).1.2.2.1 e
  ·have e1:p.1=D:=hp p (by simpa [aQ] using M8);exact dR (N7 b hb) (K9 _) (z.symm.trans e1)
 have OP:∀{σ':St} {H':Hp} {s':Shared} {ys:List Value} {c:Nat},Inv (aQ X N' scope G.objs.size s₂ H₂ fp) [] σ' H' s'->s'.heap.get? D=some { cls:=.type "list",data:=.seq ys.toArray c }->H' D=none ->
   Inv (aQ X N' scope G.objs.size s₂ H₂ fp) [(D,{ cls:=.type "list",data:=.seq ys.toArray c })] σ' H' s':=fun {σ' H' s' ys c} J e n=>J.pins_of fun p hp=>by
  have e1:=Lm.mp hp;subst e1;exact ⟨e,n,N1,OS,fun v z=>by cases z⟩
 have loop:∀s₃:Shared,(∃tk,s₃={ s₂ with heap:=h₁,toks:=tk })->codeAny (model X.prog X.w) X.A (.compLoop (.ListComp elt [⟨tg,iter,ifs,0⟩] scope pos) 0 (.ref it) (.ref D) (aQ X N' scope G.objs.size s₂ H₂ fp).env)
   (compPost (model X.prog X.w) X.A X.xe none (EP X pins σ Q) (.ref D) G.objs.size) s₃:=by
  rintro s₃ ⟨tk,rfl⟩;refine pj (fun n s'=>∃i σ' H' xs ys c,Inv (aQ X N' scope G.objs.size s₂ H₂ fp) [] σ' H' s'/\tn i s'.heap/\(∀b∈fp,H' b=none)/\H' D=none/\s'.heap.get? D=some { cls:=.type "list",data:=.seq ys.toArray c }/\aS xs ys/\W i n σ' H' xs)
   ?_ m0 ⟨0,_,H₂,[],[],0,I0 tk,T.keep _ _ _ LP fun b hb o e=>old b o e,fun b hb=>(f2 b hb).1,I2.hok.fresh 0x1,OE,.nil,w0⟩
  rintro n s' ⟨i,σ',H',xs,ys,c,J',F',fr',nD,eD,rv,w'⟩;have J1:=OP J' eD nD;rcases turn i n σ' H' xs w' with ⟨stop,hz,fin⟩|⟨go,hz,step⟩
  ·refine bX (T.done (aQ X N' scope G.objs.size s₂ H₂ fp) rfl rfl rfl hc i _ s' σ' H' _ J1 (Mx fr' fun p hp=>by rw [Lm.mp hp]) F' stop) fun r s4 ⟨hr,J4⟩=>?_;subst hr;obtain ⟨nD4,eD4⟩:=Nj (pp:=[]) J4;obtain ⟨mC,hnC,_⟩:=J4.loc;refine ⟨mC,hnC,fun h' NT=>?_⟩;have L7:∀b o,b≠G.objs.size->s4.heap.get? b=some o->h'.get? b=some o:=fun b o hb e=>NT.extBut b o hb e;have hC4:H' G.objs.size=none:=J4.free;have hun:Un (ix X.stack) fp H₂ (upd H' D (.lst xs)) s₂.heap h':=by
    have u:=J4.base;have neD:∀b o,s₂.heap.get? b=some o->b≠D:=fun b o e=>gT e (LF hD);have NF:∀b o,s₂.heap.get? b=some o->b≠G.objs.size:=fun b o e=>gT e (by rw [hD]; exact MN);have Ni:∀b o,H₂ b=some o->b≠D:=fun b o e=>dR (I2.hok.lt e) (LF hD);refine ⟨fun b o e n hb hx=>L7 b o (NF b o e) (u.keep b o e n hb hx),fun b o e n hb hx=>?_,fun b o e n hx=>by rw [aD (neD b o e)]; exact u.free b o e n hx,fun b o e hx=>?_,
     fun b xs e=>by rw [aD (Ni b _ e)]; exact u.tups b xs e,fun b o z e=>by rw [aD (Ni b _ e)]; exact u.frzs b o z e,fun b ps e=>by rw [aD (Ni b _ e)]; exact u.tbls b ps e⟩
    ·obtain ⟨sl,q⟩:=u.slot b o e n hb hx;exact ⟨sl,L7 b _ (NF b o e) q⟩
    ·obtain ⟨o',q⟩:=u.there b o e hx;exact ⟨o',L7 b _ (NF b o e) q⟩
   have O2:kr X.prog X.w (upd H' D (.lst xs)) h':=by
    intro b u e;by_cases hb:b=D
    ·subst hb;rw [aM] at e;cases e;exact ⟨hz,ys,c,rv,L7 _ _ N1 eD4⟩
    ·rw [aD hb] at e;have hnD:∀a o,H' a=some o->a≠D:=fun a o e z=>by rw [z,nD4] at e; cases e
     refine (J4.hok b u e).stay (fun a v ha q=>L7 a v ?_ q) (fun a q=>by rw [aD (hnD a _ q)]; exact q) fun a zs q=>by rw [aD (hnD a _ q)]; exact q
     rintro rfl;rcases ha with z|z
     ·rw [<-z,hC4] at e; cases e
     ·rw [hC4] at z; cases z
   refine ⟨.ref D,upd H' D (.lst xs),I2.call' (s':={ s4 with heap:=h' }) J4.os hun O2 J4.bare fun b hb=>?_,rfl,fin D nD4⟩;exact ⟨(f2 b hb).2.2.2.1,(f2 b hb).2.1,(f2 b hb).2.2.2.2.1,(f2 b hb).2.2.2.2.2⟩
  ·refine bX (T.item (aQ X N' scope G.objs.size s₂ H₂ fp) rfl rfl rfl hc i _ s' σ' H' FG J1 (Mx fr' fun p hp=>by rw [Lm.mp hp]) F' go) fun r s4 ⟨u,hr,h4⟩=>?_;subst hr;refine bX h4 fun _ s5 ⟨x,H5,I5,r5,y5,Nz,fr5⟩=>?_;have I5':=I5.pinned (Mx fr5 fun p hp=>by rw [Lm.mp hp]) (T.obj _ _ Nz);refine bX (hg _ _ _ _ _ s5 σ' H5 x u _ I5' r5 (step x H5 y5)) fun _ s6 ⟨σ6,H6,I6,q6⟩=>?_;refine bX (hf _ _ _ _ _ s6 σ6 H6 _ I6 q6) fun ok s7 ⟨H7,I7,q7⟩=>?_;have back:∀{σ8:St} {H8:Hp} {s8:Shared},Inv (aQ X N' scope G.objs.size s₂ H₂ fp) ([(D,{ cls:=.type "list",data:=.seq ys.toArray c })]++mL fp s5.heap) σ8 H8 s8 ->
     Inv (aQ X N' scope G.objs.size s₂ H₂ fp) [] σ8 H8 s8/\tn (i+1) s8.heap/\(∀b∈fp,H8 b=none)/\H8 D=none/\s8.heap.get? D=some { cls:=.type "list",data:=.seq ys.toArray c }:=fun {σ8 H8 s8} J=>by
    have pd:=J.pin (D,{ cls:=.type "list",data:=.seq ys.toArray c }) (K7 _ (K8 _ (Lm.mpr rfl)));have pf:∀b∈fp,∀o,s5.heap.get? b=some o->s8.heap.get? b=some o/\H8 b=none:=fun b hb o e=>by
     have q:=J.pin (b,o) (K7 _ (K7 _ (i5 hb e)));exact ⟨q.1,q.2.1⟩
    refine ⟨J.pins_of fun p hp=>absurd hp 0x4,T.keep _ _ _ Nz fun b hb o e=>(pf b hb o e).1,fun b hb=>?_,pd.2.1,pd.1⟩;obtain ⟨o,e,_⟩:=T.obj _ _ Nz b hb;exact (pf b hb o e).2
   cases ok with
   |false=>
    simp only [Bool.false_eq_true,if_false] at q7 ⊢;obtain ⟨m',hm,w7⟩:=q7;obtain ⟨b1,b2,b3,b4,b5⟩:=back I7;exact ⟨m',hm,i+1,σ6,H7,xs,ys,c,b1,b2,b3,b4,b5,rv,w7⟩
   |true=>
    simp only [if_true] at q7 ⊢;refine bX (he _ _ _ _ _ s7 σ6 H7 _ I7 q7) fun u8 s8 ⟨v8,H8,I8,r8,q8⟩=>?_;obtain ⟨m',hm,w8⟩:=q8;obtain ⟨b1,b2,b3,b4,b5⟩:=back I8;refine append_at b5 (fun h9 hs9 e9=>?_) (by rw [List.size_toArray,<-rv.length]; exact Nat.le_of_lt hz);have I9:Inv (aQ X N' scope G.objs.size s₂ H₂ fp) [] σ6 H8 { s8 with heap:=h9 }:=b1.turned (t':=s8.toks) (it:=D) (fun b o hb e=>(hs9.2 b hb).trans e) b4 N1 (.inr (by show s₂.heap.objs.size<=D; lia)) Na fun p hp=>absurd (show p∈([]:List (Addr×Obj)) from hp) 0x4;refine ⟨m',hm,i+1,σ6,H8,xs++[v8],ys++[u8],c+1,I9,T.keep _ _ _ b2 fun b hb o e=>(hs9.2 b ?_).trans e,b3,b4,?_,aS.append rv (.cons r8 .nil),w8⟩
    ·exact dR (N7 b hb) (K9 _)
    ·rw [e9,List.push_toArray]
 exact codeAny_compStart_list (loop _ ⟨_,rfl⟩) (T.self _ 0 _ _ _ (T.keep _ _ _ LP fun b hb o e=>old b o e) (loop _ ⟨_,rfl⟩))
end
end L2
set_option autoImplicit false
namespace L3
open PySem PySem.Spec L2
open PyProof.Rows hiding St
mutual
noncomputable def cN:PyData->Bool
 |.int _=>true
 |.tuple xs=>fq xs
 |_=>false
noncomputable def fq:List PyData->Bool
 |[]=>true
 |x::r=>cN x&&fq r
end
mutual
noncomputable def uA:PyData->Int
 |.int n=>hashInt n
 |.tuple xs=>reduceHash (Builtin.Tuple.tupleHashOf (mn xs))
 |_=>0
noncomputable def mn:List PyData->List Int
 |[]=>[]
 |x::r=>uA x::mn r
end
mutual
noncomputable def iJ:PyData->Nat
 |.tuple xs=>n4 xs+1
 |_=>1
noncomputable def n4:List PyData->Nat
 |[]=>0
 |x::r=>iJ x+n4 r
end
mutual
theorem oo:∀d:PyData,cN d=true->d.canLay0=true
 |.int _,_=>rfl
 |.tuple xs,h=>by unfold PyData.canLay0; exact uv xs (by unfold cN at h; exact h)
 |.none,h|.bool _,h|.str _,h|.list _,h|.dict _,h=>by simp [cN] at h
theorem uv:∀ds:List PyData,fq ds=true->PyData.canLayAll0 ds=true
 |[],_=>rfl
 |x::r,h=>by
  unfold fq at h;rw [Bool.and_eq_true] at h;unfold PyData.canLayAll0;rw [oo x h.1,uv r h.2]; rfl
end
mutual
theorem yp:∀x y:PyData,cN x=true->cN y=true->(PyData.eqv x y=true↔x=y)
 |.int a,.int b,_,_=>by unfold PyData.eqv; simp
 |.int a,.tuple ys,_,_=>by unfold PyData.eqv; simp
 |.tuple xs,.int b,_,_=>by unfold PyData.eqv; simp
 |.tuple xs,.tuple ys,h,h'=>by
  unfold PyData.eqv;unfold cN at h h';rw [uq xs ys h h']; simp
 |.none,_,h,_|.bool _,_,h,_|.str _,_,h,_|.list _,_,h,_|.dict _,_,h,_=>by simp [cN] at h
 |.int _,.none,_,h|.int _,.bool _,_,h|.int _,.str _,_,h|.int _,.list _,_,h|.int _,.dict _,_,h=>by simp [cN] at h
 |.tuple _,.none,_,h|.tuple _,.bool _,_,h|.tuple _,.str _,_,h|.tuple _,.list _,_,h|.tuple _,.dict _,_,h=>by simp [cN] at h
theorem uq:∀xs ys:List PyData,fq xs=true->fq ys=true->(PyData.eqvAll xs ys=true↔xs=ys)
 |[],[],_,_=>by unfold PyData.eqvAll; simp
 |[],_::_,_,_=>by unfold PyData.eqvAll; simp
 |_::_,[],_,_=>by unfold PyData.eqvAll; simp
 |x::r,y::t,h,h'=>by
  unfold fq at h h';rw [Bool.and_eq_true] at h h';unfold PyData.eqvAll;rw [Bool.and_eq_true,yp x y h.1 h'.1,uq r t h.2 h'.2]; simp
end
section
variable {prog:Program} {w:World} {E:Value->Shared->Prop}
mutual
theorem um:∀(d:PyData) (v:Value) (as:List Addr) (A:Around) (s:Shared) (Q:Int->Shared->Prop),cN d=true->Reads s.heap v d as->A.units+d.depth<cLine ->
  Q (uA d) { s with toks:=s.toks+iJ d }->wpAny (model prog w) A (pyHash v) Q E s
 |.int n,_,_,A,s,Q,_,r,_,h=>by
  cases r;unfold uA iJ at h;exact wpAny_pyHash_int h
 |.tuple xs,_,_,A,s,Q,hk,r,hu,h=>by
  cases r with
  |@tuple a o vs n _ Ny hg hc hd hr=>
   refine PySem.W.pyHash_slot (T:= "tuple") ⟨_,hg,hc⟩ F.slot_tuple_hash F.entry_tuple_hash (F.args_tuple_hash_1 _) (beq_builtin_none _) (.inr (by unfold PyData.depth at hu; lia)) ?_;show wpAny _ _ (Builtin.Tuple.tupleItemsOf (.ref a) >>= _) _ _ s;refine La (wpAny_tupleItemsOf hg hd ?_);refine La ?_;rw [<-Array.forIn_toList];refine rE xs vs.toList _ A.in1 s #[] _ (by unfold cN at hk; exact hk) hr (by unfold PyData.depth at hu; show A.units+1+_<_; lia) fun b hb=>?_;show wpAny _ _ (retInt (Builtin.Tuple.tupleHashOf b.toList)) _ _ _;rw [hb];refine La (wpAny_mkInt (Lb ⟨_,_,rfl,?_⟩));unfold uA iJ at h;simpa [Nat.add_assoc] using h
 |.none,_,_,_,_,_,h,_,_,_|.bool _,_,_,_,_,_,h,_,_,_|.str _,_,_,_,_,_,h,_,_,_|.list _,_,_,_,_,_,h,_,_,_|.dict _,_,_,_,_,_,h,_,_,_=>by simp [cN] at h
theorem rE:∀(xs:List PyData) (vs:List Value) (as:List Addr) (A:Around) (s:Shared) (b:Array Int) (Q:Array Int->Shared->Prop),fq xs=true->ReadsAll s.heap vs xs as->A.units+PyData.depthAll xs<cLine ->
  (∀b',b'.toList=b.toList++mn xs->Q b' { s with toks:=s.toks+n4 xs }) ->
  wpAny (model prog w) A (forIn vs b fun x r=>do let h <-pyHash x; pure PUnit.unit; pure (ForInStep.yield (r.push h))) Q E s
 |[],_,_,A,s,b,Q,_,r,_,h=>by
  cases r;exact Lb (h b (by simp [mn]))
 |k::xs,_,_,A,s,b,Q,hk,r,hu,h=>by
  cases r with
  |cons x1 x2=>
   unfold fq at hk;rw [Bool.and_eq_true] at hk;unfold PyData.depthAll at hu;rw [List.forIn_cons];refine La (La (um k _ _ A s _ hk.1 x1 0x1 ?_));refine La (Lb (Lb ?_));refine rE xs _ _ A _ _ Q hk.2 x2 0x1 fun b' hb=>?_;have:=h b' (by simp [hb,mn]);unfold n4 at this;simpa [Nat.add_assoc] using this
end
theorem rg:∀(n:Nat) (d:PyData) (v:Value) (as:List Addr) (A:Around) (s:Shared) (Q:Bool->Shared->Prop),cN d=true->Reads s.heap v d as->d.depth<=n->Q true s->wpAny (model prog w) A (eqIsQuiet n v) Q E s
 |n,.int i,_,_,A,s,Q,_,r,_,h=>by
  cases r;rw [eqIsQuiet_byValue n rfl];exact Lb h
 |0,.tuple xs,_,_,A,s,Q,hk,r,hn,h=>by unfold PyData.depth at hn; lia
 |n+1,.tuple xs,_,_,A,s,Q,hk,r,hn,h=>by
  cases r with
  |@tuple a o vs m _ Ny hg hc hd hr=>
   have hT:s.TypeIs (.ref a) "tuple" :=⟨_,hg,hc⟩;unfold eqIsQuiet;refine La (wpAny_specialOf hT F.slot_tuple_eq.lookup ?_);show wpAny _ _ (isInstance (.ref a) (.type "tuple") >>= _) _ _ s;refine La (wpAny_isInstance hT isSubtype_tuple_tuple ?_);simp only [Bool.not_true,Bool.false_eq_true,if_false];refine La (wpAny_seqItems hg hd ?_);refine La ?_;show wpAny _ _ (forIn vs _ _) _ _ s;rw [<-Array.forIn_toList];refine wpAny_forIn_list _ (fun cy r s'=>r.1=none/\s'=s/\∃ys bs,ReadsAll s.heap cy ys bs/\fq ys=true/\PyData.depthAll ys<=n) _ ?_ ?_ _ _ ⟨rfl,rfl,xs,_,hr,(by unfold cN at hk; exact hk),by unfold PyData.depth at hn; lia⟩
   ·rintro v cy r s' ⟨hr',rfl,ys,bs,hy,ky,dy⟩;cases hy with
    |@cons _ _ d ds as1 bs1 y1 y2=>
     unfold fq at ky;rw [Bool.and_eq_true] at ky;unfold PyData.depthAll at dy;refine La (rg n d v _ A s' _ ky.1 y1 0x1 ?_);simp only [Bool.not_true,Bool.false_eq_true,if_false];exact Lb ⟨rfl,rfl,ds,_,y2,ky.2,0x1⟩
   ·rintro ⟨r1,r2⟩ s' ⟨hr',rfl,_⟩;simp only at hr';subst hr';exact Lb h
 |_,.none,_,_,_,_,_,h,_,_,_|_,.bool _,_,_,_,_,_,h,_,_,_|_,.str _,_,_,_,_,_,h,_,_,_|_,.list _,_,_,_,_,_,h,_,_,_|_,.dict _,_,_,_,_,_,h,_,_,_=>by simp [cN] at h
mutual
theorem qR {h h':Heap} {d:Addr} {o:Obj} {es:Array DictEntry} {ep:Nat} (ho:h.get? d=some o) (hd:o.data=.dict es ep) (hs:Heap.SameBut d h h'):∀(x:PyData) (v:Value) (as:List Addr),cN x=true->Reads h v x as->Reads h' v x as
 |.int n,_,_,_,r=>by cases r; exact .int _ _
 |.tuple xs,_,_,hk,r=>by
  cases r with
  |@tuple a o' vs m _ Ny hg hc hq hr=>
   have N8:a≠d:=fun e=>by subst e; rw [ho] at hg; cases hg; rw [hd] at hq; cases hq
   exact .tuple ((hs.2 a N8).trans hg) hc hq (qZ ho hd hs xs _ _ (by unfold cN at hk; exact hk) hr)
 |.none,_,_,h,_|.bool _,_,_,h,_|.str _,_,_,h,_|.list _,_,_,h,_|.dict _,_,_,h,_=>by simp [cN] at h
theorem qZ {h h':Heap} {d:Addr} {o:Obj} {es:Array DictEntry} {ep:Nat} (ho:h.get? d=some o) (hd:o.data=.dict es ep) (hs:Heap.SameBut d h h'):∀(xs:List PyData) (vs:List Value) (as:List Addr),fq xs=true->ReadsAll h vs xs as->ReadsAll h' vs xs as
 |[],_,_,_,r=>by cases r; exact .nil
 |x::t,_,_,hk,r=>by
  unfold fq at hk;rw [Bool.and_eq_true] at hk;cases r with
  |cons r1 r2=>exact .cons (qR ho hd hs x _ _ hk.1 r1) (qZ ho hd hs t _ _ hk.2 r2)
end
noncomputable instance decD:DecidableEq PyData:=fun _ _=>Classical.propDecidable _
noncomputable def knd (prog:Program) (w:World):HeapKind prog w PyData where
 is:=fun h d a=>cN d=true/\d.depth<=6/\∃as,Reads h (.ref a) d as
 hash:=uA
 draws:=iJ
 room:=fun A=>A.units+16<cLine
 inj:=fun ⟨h1,_,_,r1⟩ ⟨_,_,_,r2⟩=>(PySem.SeqAt.Reads.unique _ _ _ _ _ (oo _ h1) r1 r2)
 keeps:=fun ⟨h1,h2,as,r⟩ ho hd hs=>⟨h1,h2,as,qR ho hd hs _ _ _ h1 r⟩
 pyHash:=fun hu ⟨h1,h2,as,r⟩ h=>um _ _ as _ _ _ h1 r 0x1 h
 eqBool:=fun hu ⟨h1,h2,as,r⟩ ⟨g1,g2,bs,r'⟩ h=>SeqAt.eqBoolOverData _ _ _ _ _ _ _ _ _ _ _ _ r r' (oo _ h1) (oo _ g1) 0x1 (by
  have e:=yp _ _ h1 g1;have q:PyData.eqv _ _=decide _:=Bool.eq_iff_iff.mpr (e.trans (decide_eq_true_iff).symm);rw [q]; exact h)
 quiet:=fun ⟨h1,h2,as,r⟩ h=>rg 8 _ _ as _ _ _ h1 r 0x1 h
end
mutual
inductive RpT (T:Addr->List V->Prop):PyData->V->Prop
 |int (i:Int):RpT T (.int i) (.int i)
 |tup {a:Addr} {xs:List PyData} {vs:List V}:T a vs->RpTL T xs vs->RpT T (.tuple xs) (.ref a)
inductive RpTL (T:Addr->List V->Prop):List PyData->List V->Prop
 |nil:RpTL T [] []
 |cons {d:PyData} {v:V} {ds:List PyData} {vs:List V}:RpT T d v->RpTL T ds vs->RpTL T (d::ds) (v::vs)
end
abbrev tv (H:Hp):Addr->List V->Prop:=fun b xs=>H b=some (.tup xs)
mutual
theorem RpT.mono {T T':Addr->List V->Prop} (k:∀b xs,T b xs->T' b xs):∀{d:PyData} {v:V},RpT T d v->RpT T' d v
 |_,_,.int i=>.int i
 |_,_,.tup h l=>.tup (k _ _ h) (RpTL.mono k l)
theorem RpTL.mono {T T':Addr->List V->Prop} (k:∀b xs,T b xs->T' b xs):∀{ds:List PyData} {vs:List V},RpTL T ds vs->RpTL T' ds vs
 |_,_,.nil=>.nil
 |_,_,.cons r l=>.cons (RpT.mono k r) (RpTL.mono k l)
end
mutual
theorem RpT.reads {P:Program} {w:World} {H:Hp} {h:Heap} (ok:kr P w H h):∀{d:PyData} {v:V} {u:Value},RpT (tv H) d v->bA v u->∃as,Reads h u d as
 |_,_,_,.int i,r=>by obtain ⟨t,rfl⟩:=r; exact ⟨_,.int i t⟩
 |_,_,_,.tup (a:=a) q l,r=>by
  cases r;obtain ⟨_,D',rv,o,e,c,n,dd⟩:=(show bU P w H h a (.tup _) from ok a _ q);obtain ⟨as,ra⟩:=RpTL.reads ok l rv;exact ⟨_,.tuple e c dd (by simpa using ra)⟩
theorem RpTL.reads {P:Program} {w:World} {H:Hp} {h:Heap} (ok:kr P w H h):∀{ds:List PyData} {vs:List V} {us:List Value},RpTL (tv H) ds vs->aS vs us->∃as,ReadsAll h us ds as
 |_,_,_,.nil,r=>by cases r; exact ⟨_,.nil⟩
 |_,_,_,.cons p l,r=>by
  cases r with
  |cons r rr=>
   obtain ⟨as,h1⟩:=RpT.reads ok p r;obtain ⟨bs,h2⟩:=RpTL.reads ok l rr;exact ⟨_,.cons h1 h2⟩
end
variable {n:Nat}
theorem HI (h:n+64<cLine):n+20<cLine:=by lia
structure KR (T:Addr->List V->Prop) (p:PyData×V) (q:PyData×Addr×Value):Prop where
 eq:p.1=q.1
 key:cN p.1=true
 deep:p.1.depth<=6
 at':RpT T p.1 (.ref q.2.1)
 val:bA p.2 q.2.2
structure DX (P:Program) (w:World) (a:Addr) (kvs:List (PyData×V)) (T:Addr->List V->Prop) (h:Heap):Prop where
 sys:(a==sysModules)=false
 len:kvs.length<=sizeLine
 ex:∃xs,Paired (KR T) kvs xs/\∃o es ep,h.get? a=some o/\o.ExactDict/\o.data=.dict es ep/\es.toList=xs.map (entryOfKey (knd P w))/\(xs.map (·.1)).Nodup
noncomputable def dO (P:Program) (w:World) (a:Addr) (kvs:List (PyData×V)):HO:=.ext (DX P w a kvs)
variable {w:World} {a:Addr} {kvs:List (PyData×V)} {T:Addr->List V->Prop} {h h':Heap}
theorem DX.stay {P:Program} {T':Addr->List V->Prop} (x:DX P w a kvs T h) (k:∀b xs,T b xs->T' b xs) (ho:∀o,h.get? a=some o->h'.get? a=some o):DX P w a kvs T' h':=by
 obtain ⟨s,l,xs,r,o,es,ep,e,c⟩:=x;exact ⟨s,l,xs,Paired.mapP r fun p q z=>⟨z.eq,z.key,z.deep,z.at'.mono k,z.val⟩,o,es,ep,ho o e,c⟩
theorem DX.obj {P:Program} (x:DX P w a kvs T h):∃o,h.get? a=some o:=by
 obtain ⟨_,_,_,_,o,_,_,e,_⟩:=x;exact ⟨o,e⟩
variable {s:Shared}
theorem DX.type {P:Program} (x:DX P w a kvs T s.heap):s.TypeIs (.ref a) "dict" /\ ∃o,s.heap.get? a=some o/\o.dict=none:=by
 obtain ⟨_,_,_,_,o,_,_,e,c,_⟩:=x;exact ⟨⟨o,e,c.1⟩,o,e,c.2.1⟩
variable {H:Hp}
theorem DX.dict {P:Program} (x:DX P w a kvs (tv H) h) (ok:kr P w H h):∃xs,Paired (KR (tv H)) kvs xs/\h.DictOfH (knd P w) a xs:=by
 obtain ⟨_,_,xs,r,o,es,ep,e,c,d,f,n⟩:=x;refine ⟨xs,r,o,es,ep,e,c,d,f,fun x hx=>?_,n⟩;have all:∀{l:List (PyData×V)} {m:List (PyData×Addr×Value)},Paired (KR (tv H)) l m->∀x∈m,(knd P w).is h x.1 x.2.1:=by
  intro l m q
  induction q with
  |nil=>intro x hx; exact nomatch hx
  |@cons p q ps qs hq t ih=>
   intro x hx;rcases Lj.mp hx with e|hx
   ·subst e;rw [<-hq.eq];exact ⟨hq.key,hq.deep,RpT.reads ok hq.at' rfl⟩
   ·exact ih x hx
 exact all r x hx
noncomputable def iC (kvs:List (PyData×V)) (k:PyData):Option V:=(kvs.find? fun x=>decide (x.1=k)).map (·.2)
theorem j4 {xs:List (PyData×Addr×Value)} (r:Paired (KR T) kvs xs) (k:PyData):(iC kvs k=none/\atKey xs k=none)\/∃v p,iC kvs k=some v/\atKey xs k=some p/\bA v p.2:=by
 induction r with
 |nil=>exact .inl ⟨rfl,rfl⟩
 |@cons p q ps qs h t ih=>
  by_cases e:p.1=k
  ·have e':q.1=k:=h.eq.symm.trans e;exact .inr ⟨p.2,q.2,by simp [iC,List.find?_cons,e],by simp [atKey,List.find?_cons,e'],h.val⟩
  ·have e':¬q.1=k:=fun z=>e (h.eq.trans z);have a:iC (p::ps) k=iC ps k:=by simp [iC,List.find?_cons,e]
   have b:atKey (q::qs) k=atKey qs k:=by simp [atKey,List.find?_cons,e']
   rw [a,b]; exact ih
noncomputable def qH (kvs:List (PyData×V)) (k:PyData) (v:V):List (PyData×V):=if (iC kvs k).isSome then kvs.map fun x=>if x.1=k then (x.1,v) else x else kvs++[(k,v)]
variable {v:V}
theorem Bh {xs:List (PyData×Addr×Value)} {k:PyData} {b:Addr} {u:Value} (r:Paired (KR T) kvs xs) (h1:cN k=true) (h2:k.depth<=6) (h3:RpT T k (.ref b)) (h4:bA v u) :
  Paired (KR T) (qH kvs k v) (storedH xs k b u):=by
 unfold qH;rcases j4 r k with ⟨e1,e2⟩|⟨v',p,e1,e2,_⟩
 ·rw [e1,storedH_new e2];exact Paired.snoc r ⟨rfl,h1,h2,h3,h4⟩
 ·rw [e1,storedH_old e2];show Paired (KR T) (kvs.map fun x=>if x.1=k then (x.1,v) else x) (xs.map (putAt k u));clear e1 e2
  induction r with
  |nil=>exact .nil
  |@cons p q ps qs h t ih=>
   rw [List.map_cons,List.map_cons];refine .cons ?_ ih;unfold putAt;by_cases e:p.1=k
   ·rw [if_pos e,if_pos (h.eq.symm.trans e)]; exact ⟨h.eq,h.key,h.deep,h.at',h4⟩
   ·rw [if_neg e,if_neg (fun z=>e (h.eq.trans z))]; exact h
theorem uZ (kvs:List (PyData×V)) (k:PyData) (v:V):(qH kvs k v).length<=kvs.length+1:=by
 unfold qH;split <;> simp
section
variable {X:Cx} {pins:List (Addr×Obj)} {σ:St} {H:Hp} {s:Shared} {a b:Addr} {kvs:List (PyData×V)} {k:PyData} {u r:Value} {v:V} {A:Around} {E:Value->Shared->Prop}
theorem Fm {P:Program} {H:Hp} {a:Addr} {kvs:List (PyData×V)} (x:DX P w a kvs (tv H) h):bU P w H h a (dO P w a kvs):=⟨x,x.obj,fun _ _ _ _ x k ho=>x.stay k ho⟩
theorem yg {P:Program} {H:Hp} {a:Addr} {kvs:List (PyData×V)} (ok:kr P w H h) (e:H a=some (dO P w a kvs)):DX P w a kvs (tv H) h:=(show bU P w H h a (.ext _) from ok a _ e).1
theorem oP {P:Program} (ok:kr P w H h) (h1:cN k=true) (h2:k.depth<=6) (h3:RpT (tv H) k (.ref b)):(knd P w).is h k b:=⟨h1,h2,RpT.reads ok h3 rfl⟩
variable {φ:(Addr->List V->Prop)->Heap->Prop}
theorem r0 {o:HO} (e:H a=some (.ext φ)):∀b xs,tv H b xs->tv (upd H a o) b xs:=fun b xs q=>by
 show upd H a o b=_;rw [aD (FJ q e (fun z=>nomatch z))]; exact q
theorem xM {ψ:(Addr->List V->Prop)->Heap->Prop} (I:Inv X pins σ H s) (e:H a=some (.ext φ)) (new:bU X.prog X.w (upd H a (.ext ψ)) s.heap a (.ext ψ)):Inv X pins σ (upd H a (.ext ψ)) s:=by
 have h:=I.write (x:=a) (e:=a) (h':=s.heap) (t':=s.toks) (by rw [e]; exact True.intro) (.inl rfl) (fun _ _ _ q=>q) new.2.1 new;exact h
theorem uK {ψ:(Addr->List V->Prop)->Heap->Prop} {t:Nat} (I:Inv X pins σ H s) (e:H a=some (.ext φ)) (hs:Heap.SameBut a s.heap h') (new:bU X.prog X.w (upd H a (.ext ψ)) h' a (.ext ψ)):Inv X pins σ (upd H a (.ext ψ)) { s with heap:=h',toks:=t }:=
 I.write (x:=a) (e:=a) (by rw [e]; exact True.intro) (.inl rfl) (fun b u hb q=>(hs.2 b hb).trans q) new.2.1 new
theorem DX.put {P:Program} {xs:List (PyData×Addr×Value)} (e:H a=some (.ext φ)) (x:DX P w a kvs (tv H) h) (rel:Paired (KR (tv H)) kvs xs) (h1:cN k=true) (h2:k.depth<=6) (h3:RpT (tv H) k (.ref b)) (rv:bA v u) (hl:kvs.length<sizeLine)
  (dd:h'.DictOfH (knd P w) a (storedH xs k b u)) {o:HO}:DX P w a (qH kvs k v) (tv (upd H a o)) h':=by
 obtain ⟨ob,es,ep,q1,q2,q3,q4,_,q5⟩:=dd;exact ⟨x.sys,Lw (uZ kvs k v) hl,_,Paired.mapP (Bh rel h1 h2 h3 rv) fun p q z=>⟨z.eq,z.key,z.deep,z.at'.mono (r0 e),z.val⟩,ob,es,ep,q1,q2,q3,q4,q5⟩
theorem Hb {Q:Value->Shared->Prop} {d:V} (hu:A.units+20<cLine) (I:Inv X pins σ H s) (x:DX X.prog X.w a kvs (tv H) s.heap) (h1:cN k=true) (h2:k.depth<=6) (h3:RpT (tv H) k (.ref b)) (rd:bA d r) (h:∀w' s',Inv X pins σ H s'->bA ((iC kvs k).getD d) w'->Q w' s') :
  wpAny (model X.prog X.w) A (call (.builtin "dict.get") [.ref a,.ref b,r]) Q E s:=by
 obtain ⟨xs,rel,dd⟩:=x.dict I.hok;refine call_meetsIn PySem.F.slot_dict_get dd.typeIs PySem.F.entry_dict_get (PySem.F.args_dict_get_3 _ _ _) (meetsH_dict_get_default (knd X.prog X.w) a b x.sys r) ⟨(by show A.units+1+16<cLine; lia),k,xs,oP I.hok h1 h2 h3,dd,h _ _ (I.tok _) ?_⟩;rcases j4 rel k with ⟨e1,e2⟩|⟨v,p,e1,e2,e3⟩
 ·rw [e1,e2]; exact rd
 ·rw [e1,e2]; exact e3
theorem qu {prog:Program} {A:Around} {E:Value->Shared->Prop} {s:Shared} {d a:Addr} {xs:List (PyData×Addr×Value)} {k:PyData} {dflt:Value} {Q:Value->Shared->Prop} (hu:(knd prog w).room A) (MR:(knd prog w).is s.heap k a) (hm:s.heap.DictOfH (knd prog w) d xs)
  (OM:∀p,atKey xs k=some p->Q p.2 { s with toks:=s.toks+iJ k })
  (OA:atKey xs k=none->∀h',h'.DictOfH (knd prog w) d (storedH xs k a dflt)->Heap.SameBut d s.heap h'->Q dflt { s with heap:=h',toks:=s.toks+iJ k })
  (hsz:xs.length<=sizeLine):wpAny (model prog w) A (dictSetDefault d (.ref a) dflt) Q E s:=by
 obtain ⟨o,es,ep,ho,hc,hd,he,his,hn⟩:=hm;unfold dictSetDefault
 try with_reducible refine wpAny_holding ?_
 refine La ((knd prog w).pyHash hu MR ?_);refine La (wpAny_dictFind_heap (s:={ s with toks:=s.toks+(knd prog w).draws k }) hu MR ho hd he his hn ?_ ?_)
 ·intro hno;have hnot:k∉xs.map (·.1):=not_mem_keys_of_get hno;refine La (wpAny_rule (La (wpAny_updateDictKeys (hz:=by have e:=size_of_entries he; lia) (s:={ s with toks:=s.toks+(knd prog w).draws k }) ho hd (Lb (OA (atKey_none_of_get hno) _ ⟨_,_,ep+1,Heap.get?_update_self _ ho (Obj.isFreed_of_dict (Obj.data_mapDictKeys hd _)),
   hc.mapDictKeys _,Obj.data_mapDictKeys hd _,?_,?_,?_⟩ (Heap.SameBut.update ..))))))
  ·rw [storedH_new (atKey_none_of_get hno)];simp [he,entryOfKey]
  ·rw [storedH_new (atKey_none_of_get hno)];intro x hx;rcases Lk.mp hx with hx|hx
   ·exact (knd prog w).keeps (his x hx) ho hd (Heap.SameBut.update ..)
   ·simp only [List.mem_singleton] at hx;subst hx;exact (knd prog w).keeps MR ho hd (Heap.SameBut.update ..)
  ·rw [storedH_new (atKey_none_of_get hno)];rw [List.map_append,List.nodup_append];refine ⟨hn,0x4,?_⟩;intro x hx y hy;simp only [List.map_cons,List.map_nil,List.mem_singleton] at hy;subst hy;exact fun e=>hnot (e▸hx)
 ·intro j p hj;refine La (wpAny_dictEntries (s:={ s with toks:=s.toks+(knd prog w).draws k }) ho hd ?_);rw [entry_at he j,hj];exact La (wpAny_rule (Lb (OM p (atKey_of_get hn hj))))
theorem nq {prog:Program} (d a:Addr) (hd:(d==sysModules)=false) (dflt:Value) :
  MeetsIn prog w (Builtin.«dict.setdefault» ⟨[.ref d,.ref a,dflt],[]⟩) (fun A R s=>(knd prog w).room A.in1/\∃k xs,(knd prog w).is s.heap k a/\s.heap.DictOfH (knd prog w) d xs/\xs.length<=sizeLine /\
   (∀p,atKey xs k=some p->R (.ok (.ret p.2)) { s with toks:=s.toks+iJ k }) /\
   (atKey xs k=none->∀h',h'.DictOfH (knd prog w) d (storedH xs k a dflt)->Heap.SameBut d s.heap h'->R (.ok (.ret dflt)) { s with heap:=h',toks:=s.toks+iJ k })):=
 .of_wp fun A R s ⟨hu,k,xs,MR,hm,hz,h1,h2⟩=>by
  unfold Builtin.«dict.setdefault»;refine La ?_;unfold Builtin.Dict.keyAndDefault;refine La (wpAny_notOrdered_dict hm.typeIs ?_);show wpAny _ _ (pure (d,Value.ref a,some dflt)) _ _ s;refine Lb ?_;show wpAny _ _ (if (d==sysModules)=true then _ else (dictSetDefault d (.ref a) dflt >>= _)) _ _ s;rw [if_neg (by rw [hd]; exact Bool.false_ne_true)];exact La (qu hu MR hm (fun p hp=>Lb ⟨p.2,rfl,h1 p hp⟩) (fun hn h' ND NT=>Lb ⟨dflt,rfl,h2 hn h' ND NT⟩) hz)
theorem tQ {Q:Value->Shared->Prop} {d:V} (hu:A.units+20<cLine) (I:Inv X pins σ H s) (e:H a=some (dO X.prog X.w a kvs)) (h1:cN k=true) (h2:k.depth<=6) (h3:RpT (tv H) k (.ref b)) (rd:bA d r) (hl:kvs.length<sizeLine)
  (old:∀v w' s',iC kvs k=some v->Inv X pins σ H s'->bA v w'->Q w' s') (new:iC kvs k=none->∀s',Inv X pins σ (upd H a (dO X.prog X.w a (kvs++[(k,d)]))) s'->Q r s') :
  wpAny (model X.prog X.w) A (call (.builtin "dict.setdefault") [.ref a,.ref b,r]) Q E s:=by
 have x:=yg I.hok e;obtain ⟨xs,rel,dd⟩:=x.dict I.hok;refine call_meetsIn PySem.F.slot_dict_setdefault dd.typeIs PySem.F.entry_dict_setdefault (PySem.F.args_dict_setdefault_3 _ _ _) (nq a b x.sys r) ⟨(by show A.units+1+16<cLine; lia),k,xs,oP I.hok h1 h2 h3,dd,by rw [<-Paired.length rel]; exact x.len,fun p hp=>?_,fun hn h' dd' hs=>?_⟩
 ·rcases j4 rel k with ⟨e1,e2⟩|⟨v,p',e1,e2,e3⟩
  ·rw [hp] at e2; cases e2
  ·rw [hp] at e2; cases e2
   exact old v _ _ e1 (I.tok _) e3
 ·rcases j4 rel k with ⟨e1,e2⟩|⟨v,p',e1,e2,e3⟩
  ·refine new e1 _ ?_;have y:=x.put (o:=dO X.prog X.w a (kvs++[(k,d)])) e rel h1 h2 h3 rd hl dd';have ev:qH kvs k d=kvs++[(k,d)]:=by unfold qH; rw [e1]; rfl
   rw [ev] at y;exact uK I e hs (Fm y)
  ·rw [hn] at e2; cases e2
end
theorem vp {α:Type}:∀(l U:List α),l.Nodup->(∀x∈l,x∈U)->l.length<=U.length
 |[],_,_,_=>Lv _
 |x::r,U,hn,hs=>by
  classical
  rw [List.nodup_cons] at hn;have hx:=hs x K5;have h:=vp r (U.erase x) hn.2 fun y hy=>by
   have N8:y≠x:=fun e=>hn.1 (e▸hy);exact (List.mem_erase_of_ne N8).mpr (hs y (K3 _ hy))
  have e:=List.length_erase_of_mem hx;have hp:0<U.length:=List.length_pos_of_mem hx;rw [List.length_cons]; lia
def Je (f:PyData->Option Int) (U:List PyData) (kvs:List (PyData×V)):Prop:=∀p∈kvs,p.1∈U/\∃i,f p.1=some i/\p.2=.int i
def MX (P:Program) (w:World) (a:Addr) (f:PyData->Option Int) (U:List PyData) (T:Addr->List V->Prop) (h:Heap):Prop:=∃kvs,Je f U kvs/\DX P w a kvs T h
def KG (P:Program) (w:World) (a:Addr) (f:PyData->Option Int) (U:List PyData) (k:PyData) (T:Addr->List V->Prop) (h:Heap):Prop:=∃kvs,Je f U kvs/\(∃v,iC kvs k=some v)/\DX P w a kvs T h
noncomputable def mO (P:Program) (w:World) (a:Addr) (f:PyData->Option Int) (U:List PyData):HO:=.ext (MX P w a f U)
noncomputable def Cn (P:Program) (w:World) (a:Addr) (f:PyData->Option Int) (U:List PyData) (k:PyData):HO:=.ext (KG P w a f U k)
section
variable {X:Cx} {pins:List (Addr×Obj)} {σ:St} {H:Hp} {s:Shared} {a b:Addr} {f:PyData->Option Int} {U:List PyData} {k:PyData} {u:Value} {A:Around} {E:Value->Shared->Prop}
theorem FA {P:Program} {H:Hp} {a:Addr} (hk:Je f U kvs) (x:DX P w a kvs (tv H) h):bU P w H h a (mO P w a f U):=⟨⟨kvs,hk,x⟩,x.obj,fun _ _ _ _ ⟨l,q,x⟩ k ho=>⟨l,q,x.stay k ho⟩⟩
theorem zW {P:Program} {H:Hp} {a:Addr} (hk:Je f U kvs) (hv:∃v,iC kvs k=some v) (x:DX P w a kvs (tv H) h):bU P w H h a (Cn P w a f U k):=⟨⟨kvs,hk,hv,x⟩,x.obj,fun _ _ _ _ ⟨l,q,z,x⟩ k ho=>⟨l,q,z,x.stay k ho⟩⟩
theorem oq (h:iC kvs k=some v):(k,v)∈kvs:=by
 unfold iC at h;cases e:kvs.find? fun x=>decide (x.1=k) with
 |none=>rw [e] at h; cases h
 |some p=>
  rw [e] at h;cases h;have h1:=List.mem_of_find?_eq_some e;have h2:p.1=k:=by simpa using List.find?_some e
  rw [<-h2]; exact h1
theorem DQ {xs:List (PyData×Addr×Value)} (r:Paired (KR T) kvs xs):kvs.map (·.1)=xs.map (·.1):=by
 induction r with
 |nil=>rfl
 |cons h t ih=>rw [List.map_cons,List.map_cons,ih,h.eq]
theorem DX.few {P:Program} {a:Addr} (x:DX P w a kvs T h) (hk:Je f U kvs):kvs.length<=U.length:=by
 obtain ⟨_,_,xs,r,_,_,_,_,_,_,_,n⟩:=x;have:=vp (kvs.map (·.1)) U (by rw [DQ r]; exact n) fun y hy=>by
  obtain ⟨p,hp,rfl⟩:=Ll.mp hy;exact (hk p hp).1
 simpa using this
theorem Ag {prog:Program} {A:Around} {E:Value->Shared->Prop} {s:Shared} {d a:Addr} {k:PyData} {xs:List (PyData×Addr×Value)} {Q:Value->Shared->Prop} (hu:(knd prog w).room A.in1) (MR:(knd prog w).is s.heap k a) (hd:(d==sysModules)=false) (hm:s.heap.DictOfH (knd prog w) d xs)
  (h:Q (.bool (!(atKey xs k).isSome)) { s with toks:=s.toks+(knd prog w).draws k }):wpAny (model prog w) A (compareOp .NotIn (.ref a) (.ref d)) Q E s:=by
 show wpAny _ _ (do return .bool (!(<-contains (.ref d) (.ref a)))) Q E s;refine La ?_;unfold contains
 try with_reducible refine wpAny_holding ?_
 refine La (wpAny_specialOf hm.typeIs slot_dict_contains.lookup ?_);show wpAny _ _ (if (some (Value.builtin "dict.__contains__")==some Value.none)=true then _ else _) _ E s;rw [if_neg (by rw [beq_builtin_none]; exact Bool.false_ne_true)];refine La (wpAny_callSpecialUnlessNone?_slot (name:=Str.ofString "__contains__") hm.typeIs slot_dict_contains
  (wpAny_call_entry slot_dict_contains hm.typeIs entry_dict_contains ?_ (args_dict_contains _ _)))
 show wpAny _ _ (dictGet d (.ref a) >>= _) _ _ s;refine La (wpAny_dictGet_heap hu MR hm ?_);cases hf:atKey xs k with
 |some v=>
  rw [hf] at h;show wpAny _ _ (ret (.bool true)) _ _ _;exact Lb ⟨_,rfl,wpAny_truthy_bool (Lb h)⟩
 |none=>
  rw [hf] at h;show wpAny _ _ (Builtin.Dict.pendingKey? d (.ref a) >>= _) _ _ _;exact La (wpAny_pendingKey_other hd (Lb ⟨_,rfl,wpAny_truthy_bool (Lb h)⟩))
theorem EO {Q:Value->Shared->Prop} (hu:A.units+20<cLine) (I:Inv X pins σ H s) (e:H a=some (mO X.prog X.w a f U)) (h1:cN k=true) (h2:k.depth<=6) (h3:RpT (tv H) k (.ref b))
  (no:∀s',Inv X pins σ H s'->Q (.bool true) s') (yes:∀s',Inv X pins σ (upd H a (Cn X.prog X.w a f U k)) s'->Q (.bool false) s'):wpAny (model X.prog X.w) A (compareOp .NotIn (.ref b) (.ref a)) Q E s:=by
 obtain ⟨⟨kvs,hk,x⟩,_⟩:=(show bU X.prog X.w H s.heap a (.ext _) from I.hok a _ e);obtain ⟨xs,rel,dd⟩:=x.dict I.hok;refine Ag (by show A.units+1+16<cLine; lia) (oP I.hok h1 h2 h3) x.sys dd ?_;rcases j4 rel k with ⟨e1,e2⟩|⟨v,p,e1,e2,e3⟩
 ·rw [e2];exact no _ (I.tok _)
 ·rw [e2];exact yes _ (xM (I.tok _) e (zW hk ⟨v,e1⟩ (x.stay (r0 e) fun _ q=>q)))
theorem Jl {Q:Value->Shared->Prop} (hu:A.units+20<cLine) (I:Inv X pins σ H s) (e:H a=some (Cn X.prog X.w a f U k)) (h1:cN k=true) (h2:k.depth<=6) (h3:RpT (tv H) k (.ref b))
  (h:∀i t s',f k=some i->Inv X pins σ (upd H a (mO X.prog X.w a f U)) s'->Q (.int i t) s'):wpAny (model X.prog X.w) A (getItem (.ref a) (.ref b)) Q E s:=by
 obtain ⟨⟨kvs,hk,⟨v,hv⟩,x⟩,_⟩:=(show bU X.prog X.w H s.heap a (.ext _) from I.hok a _ e);obtain ⟨xs,rel,dd⟩:=x.dict I.hok;rcases j4 rel k with ⟨e1,_⟩|⟨v',p,e1,e2,e3⟩
 ·rw [hv] at e1; cases e1
 obtain ⟨_,i,hi,NI⟩:=hk _ (oq e1);have hv2:v'=.int i:=NI;subst hv2;obtain ⟨t,ht⟩:=e3;refine wpAny_getItem_heap (knd:=knd X.prog X.w) (by show A.units+1+16<cLine; lia) (oP I.hok h1 h2 h3) dd e2 ?_;rw [ht];exact h i t _ hi (xM (I.tok _) e (FA hk (x.stay (r0 e) fun _ q=>q)))
theorem IT {Q:Unit->Shared->Prop} {i:Int} (hu:A.units+20<cLine) (I:Inv X pins σ H s) (e:H a=some (mO X.prog X.w a f U)) (h1:cN k=true) (h2:k.depth<=6) (h3:RpT (tv H) k (.ref b)) (rv:bA (.int i) u) (hi:f k=some i) (hU:k∈U) (hl:U.length<sizeLine)
  (h:∀s',Inv X pins σ (upd H a (Cn X.prog X.w a f U k)) s'->Q () s'):wpAny (model X.prog X.w) A (setItem (.ref a) (.ref b) u) Q E s:=by
 obtain ⟨⟨kvs,hk,x⟩,_⟩:=(show bU X.prog X.w H s.heap a (.ext _) from I.hok a _ e);obtain ⟨xs,rel,dd⟩:=x.dict I.hok;have hle:kvs.length<sizeLine:=Nat.lt_of_le_of_lt (x.few hk) hl;refine wpAny_setItem_heap (knd:=knd X.prog X.w) (hsz:=by rw [<-Paired.length rel]; exact x.len) (by show A.units+1+16<cLine; lia) (oP I.hok h1 h2 h3) dd fun h' dd' hs=>h _ ?_;have y:=x.put (o:=Cn X.prog X.w a f U k) e rel h1 h2 h3 rv hle dd';refine uK I e hs (zW (kvs:=qH kvs k (.int i)) ?_ ?_ y)
 ·intro p hp;unfold qH at hp;split at hp
  ·obtain ⟨q,hq,rfl⟩:=Ll.mp hp;by_cases eq:q.1=k
   ·rw [if_pos eq];exact ⟨by show q.1∈U; rw [eq]; exact hU,i,by show f q.1=_; rw [eq]; exact hi,rfl⟩
   ·rw [if_neg eq]; exact hk q hq
  ·rcases Lk.mp hp with hp|hp
   ·exact hk p hp
   ·simp only [List.mem_singleton] at hp;subst hp;exact ⟨hU,i,hi,rfl⟩
 ·unfold qH;cases ev:iC kvs k with
  |none=>
   refine ⟨.int i,?_⟩;show iC (kvs++[(k,V.int i)]) k=_;unfold iC at ev ⊢;rw [List.find?_append];cases e2:kvs.find? fun x=>decide (x.1=k) with
   |none=>simp
   |some p=>rw [e2] at ev; cases ev
  |some v=>
   refine ⟨.int i,?_⟩;show iC (kvs.map fun x=>if x.1=k then (x.1,V.int i) else x) k=_;have hm:=oq ev;clear y ev x rel hk hle dd dd' hs h
   induction kvs with
   |nil=>cases hm
   |cons p r ih=>
    by_cases ep:p.1=k
    ·simp [iC,List.find?_cons,ep]
    ·rw [List.map_cons,if_neg ep];have:iC (p::r.map fun x=>if x.1=k then (x.1,V.int i) else x) k=iC (r.map fun x=>if x.1=k then (x.1,V.int i) else x) k:=by simp [iC,List.find?_cons,ep]
     rw [this];refine ih ?_;rcases Lj.mp hm with z|z
     ·rw [<-z] at ep; exact absurd rfl ep
     ·exact z
end
abbrev D:=PyData
mutual
inductive Rp (Z:List Addr) (H:Hp):D->V->Prop
 |none:Rp Z H .none .non
 |bool (b:Bool):Rp Z H (.bool b) (.bl b)
 |int (i:Int):Rp Z H (.int i) (.int i)
 |str (x:Str):PyData.strOk x=true->Rp Z H (.str x) (.str x)
 |tup {a:Addr} {xs:List D} {vs:List V}:a∉Z->H a=some (.tup vs)->RpL Z H xs vs->Rp Z H (.tuple xs) (.ref a)
 |lst {a:Addr} {xs:List D} {vs:List V}:a∉Z->H a=some (.lst vs)->RpL Z H xs vs->Rp Z H (.list xs) (.ref a)
inductive RpL (Z:List Addr) (H:Hp):List D->List V->Prop
 |nil:RpL Z H [] []
 |cons {d:D} {v:V} {ds:List D} {vs:List V}:Rp Z H d v->RpL Z H ds vs->RpL Z H (d::ds) (v::vs)
end
structure Kp (Z:List Addr) (H:Hp) (Z':List Addr) (H':Hp):Prop where
 keep:∀a o,a∉Z->H a=some o->H' a=some o
 new:∀a,a∈Z'->a∈Z\/H a=none
variable {Z:List Addr} {H':Hp}
theorem Kp.same (h:aE H H'):Kp Z H Z H':=⟨fun a o _ e=>h a o e,fun _ h=>.inl h⟩
theorem Kp.refl {Z:List Addr} {H:Hp}:Kp Z H Z H:=.same (aE.refl H)
theorem Kp.at {Z Z':List Addr} {H H':Hp} {a:Addr} {u:HO} (k:Kp Z H Z' H') (hz:a∉Z) (e:H a=some u):a∉Z'/\H' a=some u:=
 ⟨fun h=>(k.new a h).elim hz fun z=>(by rw [e] at z; cases z),k.keep a u hz e⟩
theorem aE.rd {u:HO} (h:aE H H') (r:Rd H a u):Rd H' a u:=by
 rcases r with e|⟨o,e⟩
 ·exact .inl (h _ _ e)
 ·exact .inr ⟨o,h _ _ e⟩
mutual
theorem Rp.kp {Z Z':List Addr} {H H':Hp} (k:Kp Z H Z' H'):∀{d:D} {v:V},Rp Z H d v->Rp Z' H' d v
 |_,_,.none=>.none
 |_,_,.bool b=>.bool b
 |_,_,.int i=>.int i
 |_,_,.str x h=>.str x h
 |_,_,.tup hz r l=>.tup (k.at hz r).1 (k.at hz r).2 (RpL.kp k l)
 |_,_,.lst hz r l=>.lst (k.at hz r).1 (k.at hz r).2 (RpL.kp k l)
theorem RpL.kp {Z Z':List Addr} {H H':Hp} (k:Kp Z H Z' H'):∀{ds:List D} {vs:List V},RpL Z H ds vs->RpL Z' H' ds vs
 |_,_,.nil=>.nil
 |_,_,.cons r l=>.cons (Rp.kp k r) (RpL.kp k l)
end
theorem Kp.trans {Z Z1 Z2:List Addr} {H H1 H2:Hp} (a:Kp Z H Z1 H1) (b:Kp Z1 H1 Z2 H2):Kp Z H Z2 H2:=by
 refine ⟨fun c o hc e=>?_,fun c hc=>?_⟩
 ·exact b.keep c o (fun h=>(a.new c h).elim hc fun z=>by rw [e] at z; cases z) (a.keep c o hc e)
 ·rcases b.new c hc with z|z
  ·exact a.new c z
  ·by_cases hz:c∈Z
   ·exact .inl hz
   ·refine .inr ?_;cases q:H c with
    |none=>rfl
    |some o=>rw [a.keep c o hz q] at z; cases z
theorem Kp.sub {Z':List Addr} (h:∀a,a∈Z'->a∈Z):Kp Z H Z' H:=⟨fun _ _ _ e=>e,fun a ha=>.inl (h a ha)⟩
theorem RpL.length {Z:List Addr} {H:Hp}:∀{ds:List D} {vs:List V},RpL Z H ds vs->ds.length=vs.length
 |_,_,.nil=>rfl
 |_,_,.cons _ l=>by simp [RpL.length l]
theorem RpL.get {Z:List Addr} {H:Hp}:∀{ds:List D} {vs:List V} {i:Nat} {d:D},RpL Z H ds vs->ds[i]?=some d->∃v,vs[i]?=some v/\Rp Z H d v
 |_,_,_,_,.nil,h=>by simp at h
 |_,_,0,_,.cons r _,h=>by simp at h; subst h; exact ⟨_,rfl,r⟩
 |_,_,i+1,d,.cons _ l,h=>by
  obtain ⟨v,e,r⟩:=RpL.get (i:=i) (d:=d) l (by simpa using h);exact ⟨v,by simpa using e,r⟩
theorem RpL.append {Z:List Addr} {H:Hp}:∀{ds es:List D} {vs us:List V},RpL Z H ds vs->RpL Z H es us->RpL Z H (ds++es) (vs++us)
 |_,_,_,_,.nil,s=>s
 |_,_,_,_,.cons r l,s=>.cons r (RpL.append l s)
theorem RpL.take {Z:List Addr} {H:Hp}:∀{ds:List D} {vs:List V} (n:Nat),RpL Z H ds vs->RpL Z H (ds.take n) (vs.take n)
 |_,_,0,_=>.nil
 |_,_,_+1,.nil=>.nil
 |_,_,n+1,.cons r l=>.cons r (RpL.take n l)
theorem RpL.drop {Z:List Addr} {H:Hp}:∀{ds:List D} {vs:List V} (n:Nat),RpL Z H ds vs->RpL Z H (ds.drop n) (vs.drop n)
 |_,_,0,l=>l
 |_,_,_+1,.nil=>.nil
 |_,_,n+1,.cons _ l=>RpL.drop n l
theorem RpL.rep {Z:List Addr} {H:Hp} {ds:List D} {vs:List V} (h:RpL Z H ds vs):∀k:Nat,RpL Z H (List.replicate k ds).flatten (List.replicate k vs).flatten
 |0=>.nil
 |k+1=>by
  rw [List.replicate_succ,List.replicate_succ,List.flatten_cons,List.flatten_cons];exact h.append (RpL.rep h k)
mutual
theorem Rp.reads {X:Cx} {pins:List (Addr×Obj)} {σ:St} {H:Hp} {s:Shared} (I:Inv X pins σ H s) {Z:List Addr}:∀{d:D} {v:V} {u:Value},Rp Z H d v->bA v u->∃as,Reads s.heap u d as
 |_,_,_,.none,r=>by cases r; exact ⟨_,.none⟩
 |_,_,_,.bool b,r=>by cases r; exact ⟨_,.bool b⟩
 |_,_,_,.int i,r=>by obtain ⟨t,rfl⟩:=r; exact ⟨_,.int i t⟩
 |_,_,_,.str x _,r=>by obtain ⟨t,rfl⟩:=r; exact ⟨_,.str x t⟩
 |_,_,_,.tup hz q l,r=>by
  cases r;obtain ⟨D',rv,⟨o,e,c,n,dd⟩,_⟩:=I.tuple (j8.of q);obtain ⟨as,ra⟩:=RpL.reads I l rv;exact ⟨_,.tuple e c dd (by simpa using ra)⟩
 |_,_,_,.lst hz q l,r=>by
  cases r;obtain ⟨D',rv,⟨o,n,e,c,_,dd⟩,_⟩:=I.list (eN.of q);obtain ⟨as,ra⟩:=RpL.reads I l rv;exact ⟨_,.list e c dd (by simpa using ra)⟩
theorem RpL.reads {X:Cx} {pins:List (Addr×Obj)} {σ:St} {H:Hp} {s:Shared} (I:Inv X pins σ H s) {Z:List Addr}:∀{ds:List D} {vs:List V} {us:List Value},RpL Z H ds vs->aS vs us->∃as,ReadsAll s.heap us ds as
 |_,_,_,.nil,r=>by cases r; exact ⟨_,.nil⟩
 |_,_,_,.cons p l,r=>by
  cases r with
  |cons r rr=>
   obtain ⟨as,h1⟩:=Rp.reads I p r;obtain ⟨bs,h2⟩:=RpL.reads I l rr;exact ⟨_,.cons h1 h2⟩
end
mutual
theorem Rp.lay {Z:List Addr} {H:Hp}:∀{d:D} {v:V},Rp Z H d v->d.canLay0=true
 |_,_,.none=>rfl
 |_,_,.bool _=>rfl
 |_,_,.int _=>rfl
 |_,_,.str x h=>by unfold PyData.canLay0; exact h
 |_,_,.tup _ _ l=>by unfold PyData.canLay0; exact RpL.lay l
 |_,_,.lst _ _ l=>by unfold PyData.canLay0; exact RpL.lay l
theorem RpL.lay {Z:List Addr} {H:Hp}:∀{ds:List D} {vs:List V},RpL Z H ds vs->PyData.canLayAll0 ds=true
 |_,_,.nil=>rfl
 |_,_,.cons r l=>by unfold PyData.canLayAll0; rw [Rp.lay r,RpL.lay l]; rfl
end
def KL (K:Li) (a:Addr) (xs:List V):Prop:=∃(o:Obj) (D':Array Value) (n:Nat),K.lookup a=some o/\o.cls=.type "list" /\ o.dict=none/\o.data=.seq D' n/\D'.size<=sizeLine/\aS xs D'.toList
abbrev d3:=Int×Int
abbrev By:=List (d3×List (List d3))
noncomputable def tD (t:d3):D:=.tuple [.int t.1,.int t.2]
noncomputable def wD (w:List d3):D:=.list (w.map tD)
inductive FzK where
 |dl (P:Program) (w:World) (l:By)
 |tb (P:Program) (w:World) (C:Addr) (l:By) (f:PyData->Option Int) (U:List PyData)
inductive DV where
 |d (x:D)
 |ob (C:Addr) (fs:List (Str×D))
 |fz (kvs:FzK)
 |ex (q:Addr)
 |tpo (p xs q:List D)
 |nwt (p xs q:List D)
 |own (xs:List D)
 |new (xs:List D)
 |scr (K:Li) (ns:List Int)
abbrev DS:=List (Option DV)
def FQ (Z:List Addr) (H:Hp):List (Str×D)->List (Str×V)->Prop:=Paired fun (p:Str×D) (q:Str×V)=>p.1=q.1/\Rp Z H p.2 q.2
def CD (Z:List Addr) (H:Hp) (C:Addr) (fs:List (Str×D)) (v:V):Prop:=∃a dx gs,v=.ref a/\a∉Z/\H a=some (.ins C dx gs)/\FQ Z H fs gs
def BW (Z:List Addr) (H:Hp):By->List (D×V)->Prop:=Paired fun (p:d3×List (List d3)) (q:D×V)=>q.1=tD p.1/\Rp Z H (.list (p.2.map wD)) q.2
def KH (Z:List Addr) (H:Hp):FzK->Addr->Addr->Prop
 |.dl P w l,a,_=>a∉Z/\∃kvs,H a=some (dO P w a kvs)/\BW Z H l kvs
 |.tb P w C l f U,a,dx=>a∉Z/\∃b k kvs,H a=some (.ins C dx [("by_least",.ref b),("known",.ref k)])/\b∉Z/\H b=some (dO P w b kvs)/\BW Z H l kvs/\k∉Z/\H k=some (mO P w k f U)
def xK (Z:List Addr) (H:Hp) (x:FzK) (v:V):Prop:=∃a dx,v=.ref a/\KH Z H x a dx
def KP (P Z:List Addr) (H:Hp) (xs:List D) (v:V):Prop:=∃a vs,v=.ref a/\a∈P/\H a=some (.lst vs)/\RpL Z H xs vs
def GZ (P Z:List Addr) (H:Hp) (p xs q:List D) (v:V):Prop:=∃t a ps vs qs,v=.ref t/\t∉Z/\H t=some (.tup (ps++.ref a::qs))/\a∈P/\H a=some (.lst vs)/\RpL Z H p ps/\RpL Z H xs vs/\RpL Z H q qs
def An (Z:List Addr) (H H':Hp) (p xs q:List D) (v:V):Prop:=∃t a ps vs qs,v=.ref t/\t∉a::Z/\H' t=some (.tup (ps++.ref a::qs))/\H a=none/\H' a=some (.lst vs)/\RpL (a::Z) H' p ps/\RpL (a::Z) H' xs vs/\RpL (a::Z) H' q qs
def qk (H:Hp):DV->V->Addr->Prop
 |.own _,v,a=>v=.ref a
 |.tpo p _ _,v,a=>∃t vs,v=.ref t/\H t=some (.tup vs)/\vs[p.length]?=some (.ref a)
 |_,_,_=>False
noncomputable def Em:DV->Bool
 |.own _=>true
 |.tpo _ _ _=>true
 |_=>false
variable {x:DV}
theorem qk.q (h:qk H x v a):Em x=true:=by
 cases x <;> first|exact h.elim|rfl
def RE (O P:List Addr) (H H':Hp):DV->V->Prop
 |.d x,v=>Rp (P++O) H' x v
 |.ob C fs,v=>CD (P++O) H' C fs v
 |.fz kvs,v=>xK (P++O) H' kvs v
 |.ex q,v=>v=.ref q
 |.tpo p xs q,v=>GZ P (P++O) H' p xs q v
 |.nwt p xs q,v=>An (P++O) H H' p xs q v
 |.own xs,v=>KP P (P++O) H' xs v
 |.new xs,v=>∃a vs,v=.ref a/\H a=none/\H' a=some (.lst vs)/\RpL (a::(P++O)) H' xs vs
 |.scr K ns,v=>∃a,v=.ref a/\((a∉P++O/\Rd H' a (.lst (ns.map V.int)))\/KL K a (ns.map V.int))
structure RS (O P:List Addr) (H:Hp) (σ:St) (δ:DS):Prop where
 len:σ.length=δ.length
 dom:∀a,a∈P++O->∃o,H a=some o
 apart:∀a,a∈P->a∉O
 at':∀(i:Nat) (x:DV),δ[i]?=some (some x)->∃v,σ[i]?=some (some v)/\(∀xs,x≠.new xs)/\RE O P H H x v
 one:∀(i j:Nat) (x y:DV) (v w:V) (a:Addr),δ[i]?=some (some x)->δ[j]?=some (some y)->σ[i]?=some (some v)->σ[j]?=some (some w)->qk H x v a->qk H y w a->i=j
theorem GZ.kp {P P' Z Z':List Addr} {H H':Hp} (k:Kp Z H Z' H') (hP:∀a u,a∈P->H a=some u->a∈P'/\H' a=some u) {p xs q:List D} {v:V} (h:GZ P Z H p xs q v):GZ P' Z' H' p xs q v:=by
 obtain ⟨t,a,ps,vs,qs,e,hz,ht,hp,ha,l1,l2,l3⟩:=h;exact ⟨t,a,ps,vs,qs,e,(k.at hz ht).1,(k.at hz ht).2,(hP a _ hp ha).1,(hP a _ hp ha).2,l1.kp k,l2.kp k,l3.kp k⟩
variable {xs q:List D}
theorem An.no {p:List D} (h:An Z H H p xs q v):False:=by
 obtain ⟨t,a,ps,vs,qs,e,hz,ht,hn,ha,_⟩:=h;rw [hn] at ha; cases ha
variable {H1 H2:Hp}
theorem An.on {p:List D} (h:An Z H H1 p xs q v) (s:aE H1 H2):An Z H H2 p xs q v:=by
 obtain ⟨t,a,ps,vs,qs,e,hz,ht,hn,ha,l1,l2,l3⟩:=h;exact ⟨t,a,ps,vs,qs,e,hz,s _ _ ht,hn,s _ _ ha,l1.kp (.same s),l2.kp (.same s),l3.kp (.same s)⟩
variable {O P:List Addr}
theorem qk.old (k:∀b o,b∉P++O->H b=some o->H' b=some o) (r:RE O P H H x v) (h:qk H' x v a):qk H x v a:=by
 cases x with
 |own xs=>exact h
 |tpo p xs q=>
  obtain ⟨t,b,ps,vs,qs,e,hz,ht,_⟩:=r;obtain ⟨t',us,e',NU,hu⟩:=h;subst e;cases e';rw [k _ _ hz ht] at NU;cases NU;exact ⟨t,_,rfl,ht,hu⟩
 |_=>exact h.elim
theorem qk.new (r:RE O P H H x v) (h:qk H x v a):a∈P:=by
 cases x with
 |own xs=>
  obtain ⟨b,vs,e,hP,_⟩:=r;have h':v=.ref a:=h;rw [h'] at e; cases e; exact hP
 |tpo p xs q=>
  obtain ⟨t,b,ps,vs,qs,e,hz,ht,hP,_,l,_⟩:=r;obtain ⟨t',us,e',NU,hu⟩:=h;subst e;cases e';rw [ht] at NU;cases NU;rw [l.length,List.getElem?_append_right (K9 _),Nat.sub_self] at hu;cases hu;exact hP
 |_=>exact h.elim
theorem FQ.kp {Z Z':List Addr} {H H':Hp} (k:Kp Z H Z' H') {fs:List (Str×D)} {gs:List (Str×V)} (h:FQ Z H fs gs):FQ Z' H' fs gs:=Paired.mapP h fun _ _ r=>⟨r.1,r.2.kp k⟩
theorem CD.kp {Z Z':List Addr} {H H':Hp} (k:Kp Z H Z' H') {C:Addr} {fs:List (Str×D)} {v:V} (h:CD Z H C fs v):CD Z' H' C fs v:=by
 obtain ⟨a,dx,gs,e,hz,ha,hf⟩:=h;refine ⟨a,dx,gs,e,fun hz'=>?_,k.keep _ _ hz ha,hf.kp k⟩;rcases k.new a hz' with z|z
 ·exact hz z
 ·rw [ha] at z; cases z
theorem BW.kp {Z Z':List Addr} {H H':Hp} (k:Kp Z H Z' H') {l:By} {kvs:List (D×V)} (h:BW Z H l kvs):BW Z' H' l kvs:=Paired.mapP h fun _ _ r=>⟨r.1,r.2.kp k⟩
theorem xK.kp {Z Z':List Addr} {H H':Hp} (k:Kp Z H Z' H') {x:FzK} {v:V} (h:xK Z H x v):xK Z' H' x v:=by
 obtain ⟨a,dx,e,h⟩:=h;refine ⟨a,dx,e,?_⟩;cases x with
 |dl P w l=>
  obtain ⟨hz,kvs,ha,hl⟩:=h;exact ⟨(k.at hz ha).1,kvs,(k.at hz ha).2,hl.kp k⟩
 |tb P w C l f U=>
  obtain ⟨hz,b,m,kvs,ha,hb,eb,hl,hm,em⟩:=h;exact ⟨(k.at hz ha).1,b,m,kvs,(k.at hz ha).2,(k.at hb eb).1,(k.at hb eb).2,hl.kp k,(k.at hm em).1,(k.at hm em).2⟩
theorem RS.same {O P:List Addr} {H H':Hp} {σ:St} {δ:DS} (r:RS O P H σ δ) (h:aE H H'):RS O P H' σ δ:=by
 refine ⟨r.len,fun a ha=>?_,r.apart,fun i x e=>?_,fun i j x y v w a e1 e2 e3 e4 o1 o2=>?_⟩
 ·obtain ⟨o,e⟩:=r.dom a ha;exact ⟨o,h a o e⟩
 ·obtain ⟨v,e1,e2,e3⟩:=r.at' i x e;refine ⟨v,e1,e2,?_⟩;cases x with
  |d x=>exact Rp.kp (.same h) e3
  |ob C fs=>exact CD.kp (.same h) e3
  |fz kvs=>exact xK.kp (.same h) e3
  |ex q=>exact e3
  |tpo p xs q=>exact GZ.kp (.same h) (fun a u hp ha=>⟨hp,h a u ha⟩) e3
  |nwt p xs q=>exact (An.no e3).elim
  |own xs=>
   obtain ⟨a,vs,ev,hP,ha,hl⟩:=e3;exact ⟨a,vs,ev,hP,h a _ ha,hl.kp (.same h)⟩
  |new xs=>exact absurd rfl (e2 xs)
  |scr K ns=>
   obtain ⟨a,ev,hz⟩:=e3;exact ⟨a,ev,hz.imp (fun z=>⟨z.1,aE.rd h z.2⟩) fun z=>z⟩
 ·obtain ⟨v',d1,_,r1⟩:=r.at' i x e1;obtain ⟨w',d2,_,r2⟩:=r.at' j y e2;rw [e3] at d1; cases d1
  rw [e4] at d2; cases d2
  exact r.one i j x y v w a e1 e2 e3 e4 (o1.old (fun b o _ q=>h b o q) r1) (o2.old (fun b o _ q=>h b o q) r2)
theorem RE.on {O P:List Addr} {H H1 H2:Hp} {x:DV} {v:V} (r:RE O P H H1 x v) (h:aE H1 H2):RE O P H H2 x v:=by
 cases x with
 |d x=>exact Rp.kp (.same h) r
 |ob C fs=>exact CD.kp (.same h) r
 |fz kvs=>exact xK.kp (.same h) r
 |ex q=>exact r
 |tpo p xs q=>exact GZ.kp (.same h) (fun a u hp ha=>⟨hp,h a u ha⟩) r
 |nwt p xs q=>exact An.on r h
 |own xs=>
  obtain ⟨a,vs,ev,hP,ha,hl⟩:=r;exact ⟨a,vs,ev,hP,h a _ ha,hl.kp (.same h)⟩
 |new xs=>
  obtain ⟨a,vs,ev,hn,ha,hl⟩:=r;exact ⟨a,vs,ev,hn,h a _ ha,hl.kp (.same h)⟩
 |scr K ns=>
  obtain ⟨a,ev,hz⟩:=r;exact ⟨a,ev,hz.imp (fun z=>⟨z.1,aE.rd h z.2⟩) fun z=>z⟩
theorem RE.from (r:RE O P H1 H2 x v) (h:aE H H1):RE O P H H2 x v:=by
 cases x with
 |d x=>exact r
 |ob C fs=>exact r
 |fz kvs=>exact r
 |ex q=>exact r
 |tpo p xs q=>exact r
 |nwt p xs q=>
  obtain ⟨t,a,ps,vs,qs,e,hz,ht,hn,ha,ll⟩:=r;exact ⟨t,a,ps,vs,qs,e,hz,ht,h.free hn,ha,ll⟩
 |own xs=>exact r
 |new xs=>
  obtain ⟨a,vs,ev,hn,ha,hl⟩:=r;exact ⟨a,vs,ev,h.free hn,ha,hl⟩
 |scr K ns=>exact r
abbrev M (α:Type):=Option (Except Value α)
noncomputable def bd {α β:Type} (m:M α) (f:α->M β):M β:=match m with
 |none=>none
 |some (.error c)=>some (.error c)
 |some (.ok a)=>f a
noncomputable def rt {α:Type} (a:α):M α:=some (.ok a)
variable {α β:Type}
@[simp] theorem ay (a:α) (f:α->M β):bd (rt a) f=f a:=rfl
@[simp] theorem z5 (a:α) (f:α->M β):bd (some (.ok a)) f=f a:=rfl
@[simp] theorem tw (f:α->M β):bd (none:M α) f=none:=rfl
noncomputable def op {α:Type} (o:Option α):M α:=match o with
 |none=>none
 |some a=>some (.ok a)
@[simp] theorem aP (a:α):op (some a)=rt a:=rfl
theorem ax {m:M α} {f:α->M β} {r:Except Value β} (h:bd m f=some r):(∃a,m=some (.ok a)/\f a=some r)\/(∃c,m=some (.error c)/\r=.error c):=by
 cases m with
 |none=>cases h
 |some e=>
  cases e with
  |ok a=>exact .inl ⟨a,rfl,h⟩
  |error c=>exact .inr ⟨c,rfl,by cases h; rfl⟩
noncomputable def uh:DV->Option D
 |.d x=>some x
 |.new xs=>some (.list xs)
 |.nwt p xs q=>some (.tuple (p++.list xs::q))
 |_=>none
noncomputable def ma:DV->Option (List D)
 |.d (.list xs)=>some xs
 |.own xs=>some xs
 |.new xs=>some xs
 |_=>none
noncomputable def FE:DV->Option DV
 |.d x=>some (.d x)
 |.ob C fs=>some (.ob C fs)
 |.fz kvs=>some (.fz kvs)
 |.ex q=>some (.ex q)
 |.new xs=>some (.d (.list xs))
 |.nwt p xs q=>some (.d (.tuple (p++.list xs::q)))
 |.scr K ns=>some (.scr K ns)
 |_=>none
@[simp] theorem CL (K:Li) (ns:List Int):FE (.scr K ns)=some (.scr K ns):=rfl
@[simp] theorem yA (x:D):uh (.d x)=some x:=rfl
@[simp] theorem oA (xs:List D):uh (.new xs)=some (.list xs):=rfl
@[simp] theorem xT (xs:List D):ma (.d (.list xs))=some xs:=rfl
@[simp] theorem oE (xs:List D):ma (.own xs)=some xs:=rfl
@[simp] theorem oC (xs:List D):ma (.new xs)=some xs:=rfl
@[simp] theorem Jq (x:D):FE (.d x)=some (.d x):=rfl
@[simp] theorem Hj (C:Addr) (fs:List (Str×D)):FE (.ob C fs)=some (.ob C fs):=rfl
@[simp] theorem C1 (xs:List D):FE (.new xs)=some (.d (.list xs)):=rfl
section
variable {O P:List Addr} {H H':Hp} {x:DV} {v:V}
theorem l7 (dom:∀a,a∈P++O->∃o,H a=some o) (r:RE O P H H' (.new xs) v):Rp (P++O) H' (.list xs) v:=by
 obtain ⟨a,vs,rfl,hn,ha,hl⟩:=r;refine .lst (fun h=>?_) ha (hl.kp (.sub fun b hb=>K3 _ hb));obtain ⟨o,e⟩:=dom a h;rw [e] at hn; cases hn
theorem o8 {p:List D} (dom:∀a,a∈P++O->∃o,H a=some o) (r:RE O P H H' (.nwt p xs q) v):Rp (P++O) H' (.tuple (p++.list xs::q)) v:=by
 obtain ⟨t,a,ps,vs,qs,rfl,hz,ht,hn,ha,l1,l2,l3⟩:=r;have k:Kp (a::(P++O)) H' (P++O) H':=.sub fun b hb=>K3 _ hb;refine .tup (fun h=>hz (K3 _ h)) ht (RpL.append (l1.kp k) (.cons (.lst (fun h=>?_) ha (l2.kp k)) (l3.kp k)));obtain ⟨o,e⟩:=dom a h;rw [e] at hn; cases hn
theorem RE.data {d:D} (dom:∀a,a∈P++O->∃o,H a=some o) (r:RE O P H H' x v) (h:uh x=some d):Rp (P++O) H' d v:=by
 cases x with
 |d y=>cases h; exact r
 |ob C fs=>cases h
 |fz kvs=>cases h
 |ex q=>cases h
 |tpo p xs q=>cases h
 |nwt p xs q=>cases h; exact o8 dom r
 |own xs=>cases h
 |new xs=>cases h; exact l7 dom r
 |scr K ns=>cases h
theorem RE.list (r:RE O P H H' x v) (h:ma x=some xs):∃a vs,v=.ref a/\H' a=some (.lst vs)/\RpL (P++O) H' xs vs:=by
 cases x with
 |d y=>
  cases y <;> simp only [ma] at h <;> try cases h
  have r':Rp (P++O) H' _ v:=r;cases r' with
  |lst hz q l=>exact ⟨_,_,rfl,q,l⟩
 |ob C fs=>cases h
 |fz kvs=>cases h
 |ex q=>cases h
 |tpo p xs q=>cases h
 |nwt p xs q=>cases h
 |own ys=>
  cases h;obtain ⟨a,vs,rfl,hP,ha,hl⟩:=r;exact ⟨a,vs,rfl,ha,hl⟩
 |new ys=>
  cases h;obtain ⟨a,vs,rfl,hn,ha,hl⟩:=r;exact ⟨a,vs,rfl,ha,hl.kp (.sub fun b hb=>K3 _ hb)⟩
 |scr K ns=>cases h
theorem RE.arg {y:DV} (dom:∀a,a∈P++O->∃o,H a=some o) (r:RE O P H H' x v) (h:FE x=some y):RE O P H H' y v:=by
 cases x with
 |d z=>cases h; exact r
 |ob C fs=>cases h; exact r
 |fz kvs=>cases h; exact r
 |ex q=>cases h; exact r
 |tpo p xs q=>cases h
 |nwt p xs q=>cases h; exact o8 dom r
 |own xs=>cases h
 |new xs=>cases h; exact l7 dom r
 |scr K ns=>cases h; exact r
end
def Fn (E:XK) (O P:List Addr) (H₀ H:Hp) (Q:VK):Except Value DV->Prop
 |.ok x=>∀v H',aE H H'->RE O P H₀ H' x v->Q v H'
 |.error c=>∀dx H',aE H H'->E c dx H'
def CA (E:XK) (H:Hp) (Q:Bool->Hp->Prop):Except Value Bool->Prop
 |.ok b=>∀H',aE H H'->Q b H'
 |.error c=>∀dx H',aE H H'->E c dx H'
def lu (O P:List Addr) (H H':Hp):List DV->List V->Prop:=Paired (RE O P H H')
def KD (E:XK) (O P:List Addr) (H₀ H:Hp) (Q:List V->Hp->Prop):Except Value (List DV)->Prop
 |.ok xs=>∀vs H',aE H H'->lu O P H₀ H' xs vs->Q vs H'
 |.error c=>∀dx H',aE H H'->E c dx H'
variable {E:XK} {H₀:Hp} {Q:VK} {r:Except Value DV}
theorem Fn.on (h:Fn E O P H₀ H Q r) (s:aE H H1):Fn E O P H₀ H1 Q r:=by
 cases r with
 |ok x=>exact fun v H' s' q=>h v H' (s.trans s') q
 |error c=>exact fun dx H' s'=>h dx H' (s.trans s')
theorem CA.on {Q:Bool->Hp->Prop} {r:Except Value Bool} (h:CA E H Q r) (s:aE H H1):CA E H1 Q r:=by
 cases r with
 |ok x=>exact fun H' s'=>h H' (s.trans s')
 |error c=>exact fun dx H' s'=>h dx H' (s.trans s')
def tE (E:XK) (f:DS->M DV):TE:=fun σ H Q=>∃O P δ r,RS O P H σ δ/\f δ=some r/\Fn E O P H H Q r
def zX (E:XK) (f:DS->M Bool):TT:=fun σ H Q=>∃O P δ r,RS O P H σ δ/\f δ=some r/\CA E H Q r
def Kj (E:XK) (f:DS->M (List DV)):TA:=fun σ H Q=>∃O P δ r,RS O P H σ δ/\f δ=some r/\KD E O P H H Q r
def PX (X:Cx) (E:XK) (e:Expr) (f:DS->M DV):Prop:=PE X e (tE E f)
def PB (X:Cx) (E:XK) (e:Expr) (f:DS->M Bool):Prop:=PT X e (zX E f)
def t6 (X:Cx) (E:XK) (es:List Expr) (f:DS->M (List DV)):Prop:=PA X es (Kj E f)
section
variable {X:Cx} {E:XK}
variable {e:Expr}
theorem PE.mono {t t':TE} (h:PE X e t) (m:∀σ H Q,t' σ H Q->t σ H Q):PE X e t':=fun pins s σ H Q I q=>h pins s σ H Q I (m σ H Q q)
theorem PT.mono {t t':TT} (h:PT X e t) (m:∀σ H Q,t' σ H Q->t σ H Q):PT X e t':=fun pins s σ H Q I q=>h pins s σ H Q I (m σ H Q q)
theorem PA.mono {es:List Expr} {t t':TA} (h:PA X es t) (m:∀σ H Q,t' σ H Q->t σ H Q):PA X es t':=fun pos pins s σ H Q I q=>h pos pins s σ H Q I (m σ H Q q)
variable {σ:St}
theorem kG {f:DS->M DV} {g:DS->DV->M DV} {t:VK} (h:tE E (fun δ=>bd (f δ) (g δ)) σ H Q)
  (k:∀O P δ x r v H1,RS O P H σ δ->RS O P H1 σ δ->aE H H1->RE O P H H1 x v->g δ x=some r->Fn E O P H H1 Q r->t v H1):tE E f σ H t:=by
 obtain ⟨O,P,δ,r,rs,e,q⟩:=h;rcases ax e with ⟨x,e1,e2⟩|⟨c,e1,e2⟩
 ·exact ⟨O,P,δ,.ok x,rs,e1,fun v H1 s1 re=>k O P δ x r v H1 rs (rs.same s1) s1 re e2 (q.on s1)⟩
 ·subst e2;exact ⟨O,P,δ,.error c,rs,e1,q⟩
theorem sJ {f:DS->M DV} {g:DS->DV->M Bool} {Q:Bool->Hp->Prop} {t:VK} (h:zX E (fun δ=>bd (f δ) (g δ)) σ H Q)
  (k:∀O P δ x r v H1,RS O P H σ δ->RS O P H1 σ δ->aE H H1->RE O P H H1 x v->g δ x=some r->CA E H1 Q r->t v H1):tE E f σ H t:=by
 obtain ⟨O,P,δ,r,rs,e,q⟩:=h;rcases ax e with ⟨x,e1,e2⟩|⟨c,e1,e2⟩
 ·exact ⟨O,P,δ,.ok x,rs,e1,fun v H1 s1 re=>k O P δ x r v H1 rs (rs.same s1) s1 re e2 (q.on s1)⟩
 ·subst e2;exact ⟨O,P,δ,.error c,rs,e1,q⟩
theorem wY {f:DS->M Bool} {g:DS->Bool->M Bool} {Q:Bool->Hp->Prop} {t:Bool->Hp->Prop} (h:zX E (fun δ=>bd (f δ) (g δ)) σ H Q)
  (k:∀O P δ x r H1,RS O P H σ δ->RS O P H1 σ δ->aE H H1->g δ x=some r->CA E H1 Q r->t x H1):zX E f σ H t:=by
 obtain ⟨O,P,δ,r,rs,e,q⟩:=h;rcases ax e with ⟨x,e1,e2⟩|⟨c,e1,e2⟩
 ·exact ⟨O,P,δ,.ok x,rs,e1,fun H1 s1=>k O P δ x r H1 rs (rs.same s1) s1 e2 (q.on s1)⟩
 ·subst e2;exact ⟨O,P,δ,.error c,rs,e1,q⟩
noncomputable def af (i:Nat) (δ:DS):M DV:=op ((δ[i]?).join)
variable {pos:Pos}
theorem ag (i:Nat) {x:Str} (h:PE X (.Name x pos) (gy i)):PX X E (.Name x pos) (af i):=PE.mono h fun σ H Q q=>by
 obtain ⟨O,P,δ,r,rs,e,q⟩:=q;unfold af at e;cases ed:δ[i]? with
 |none=>rw [ed] at e; cases e
 |some o=>
  cases o with
  |none=>rw [ed] at e; cases e
  |some y=>
   rw [ed] at e;cases e;obtain ⟨v,e1,e2,e3⟩:=rs.at' i y ed;exact ⟨v,e1,q v H (aE.refl H) e3⟩
noncomputable def eC (x:D) (_:DS):M DV:=rt (.d x)
theorem sq {x:D} (h:PE X e (tC v)) (hr:∀Z H,Rp Z H x v):PX X E e (eC x):=PE.mono h fun σ H Q q=>by
 obtain ⟨O,P,δ,r,rs,e,q⟩:=q;cases e;exact q v H (aE.refl H) (hr _ _)
theorem aj {i:Int} {j pos}:PX X E (.Constant (.int i) j pos) (eC (.int i)):=sq AX fun _ _=>.int i
theorem pW {b:Bool} {j pos}:PX X E (.Constant (.bool b) j pos) (eC (.bool b)):=sq IB fun _ _=>.bool b
theorem iT {x:Str} {j pos} (hx:PyData.strOk x=true):PX X E (.Constant (.str x) j pos) (eC (.str x)):=sq Ae fun _ _=>.str x hx
theorem EL {x:Str} {i:Int} {t:Tok} (hg:Gl X x) (hm:X.mg x=some (.int i t)) (hd:(x==("__debug__" : Str))=false:=by decide):PX X E (.Name x pos) (eC (.int i)):=sq (v:=.int i) (Ed hg hm ⟨t,rfl⟩ hd) fun _ _=>.int i
def gL (X:Cx) (E:XK) (f:Value->Value->Sem Value) (g:DV->DV->M DV):Prop:=
 ∀(pins:List (Addr×Obj)) (s:Shared) (σ:St) (O P:List Addr) (H₀ H:Hp) (x y:DV) (v u:V) (vv uu:Value) (r:Except Value DV) (Q:VK),Inv X pins σ H s->(∀a,a∈P++O->∃o,H₀ a=some o)->aE H₀ H ->
  RE O P H₀ H x v->RE O P H₀ H y u->bA v vv->bA u uu->g x y=some r->Fn E O P H₀ H Q r->wpAny (model X.prog X.w) X.A (f vv uu) (EP X pins σ Q) X.xe s
noncomputable def e2 (g:DV->DV->M DV) (fa fb:DS->M DV) (δ:DS):M DV:=bd (fa δ) fun x=>bd (fb δ) fun y=>g x y
variable {g:DV->DV->M DV}
theorem gL.rule {f:Value->Value->Sem Value} {R:R2} (ho:qO X f R)
  (h:∀(O P:List Addr) (H₀ H:Hp) (x y:DV) (v u:V) (r:Except Value DV) (Q:VK),(∀a,a∈P++O->∃o,H₀ a=some o)->aE H₀ H->RE O P H₀ H x v->RE O P H₀ H y u->g x y=some r->Fn E O P H₀ H Q r->R v u H Q):gL X E f g:=
 fun pins s σ O P H₀ H x y v u vv uu r Q I hd hs rx ry ev eu e q=>ho pins s σ H v u vv uu Q I ev eu (h O P H₀ H x y v u r Q hd hs rx ry e q)
variable {fa fb:DS->M DV}
theorem t2 (h:tE E (e2 g fa fb) σ H Q) {t:V->V->Hp->Prop}
  (k:∀O P x y r v u H1,(∀a,a∈P++O->∃o,H a=some o)->aE H H1->RE O P H H1 x v->RE O P H H1 y u->g x y=some r->Fn E O P H H1 Q r->t v u H1) :
  tE E fa σ H fun v H1=>tE E fb σ H1 fun u H2=>t v u H2:=by
 refine kG (g:=fun δ x=>bd (fb δ) fun y=>g x y) h fun O P δ x r v H1 rs LK s1 rx e q=>?_;rcases ax e with ⟨y,e1,e2⟩|⟨c,e1,e2⟩
 ·refine ⟨O,P,δ,.ok y,LK,e1,fun u H2 s2 ry=>k O P x y r v u H2 rs.dom (s1.trans s2) (rx.on s2) (ry.from s1) e2 (q.on s2)⟩
 ·subst e2;exact ⟨O,P,δ,.error c,LK,e1,q⟩
theorem aL {a b:Expr} {o:Operator} (ho:gL X E (binaryOp o) g) (ha:PX X E a fa) (hb:PX X E b fb):PX X E (.BinOp a o b pos) (e2 g fa fb):=by
 intro pins s σ H Q I h;exact wpAny_BinOp (J6 ha hb I (t2 h (t:=fun v u H1=>∃O P x y r,(∀a,a∈P++O->∃o,H a=some o)/\aE H H1/\RE O P H H1 x v/\RE O P H H1 y u/\g x y=some r/\Fn E O P H H1 Q r) fun O P x y r v u H1 h1 h2 h3 h4 h5 h6=>⟨O,P,x,y,r,h1,h2,h3,h4,h5,h6⟩)
  fun vv uu s2 v u H2 I2 rv ru ⟨O,P,x,y,r,h1,h2,h3,h4,h5,h6⟩=>ho pins s2 σ O P H H2 x y v u vv uu r Q I2 h1 h2 h3 h4 rv ru h5 h6)
theorem ng {a b:Expr} {o:CmpOp} (ho:gL X E (compareOp o) g) (ha:PX X E a fa) (hb:PX X E b fb) (hm:behindInMarks o b=false:=by first|exact wF _|rfl):PX X E (.Compare a [o] [b] pos) (e2 g fa fb):=by
 intro pins s σ H Q I h;exact wpAny_Compare1 (J6 ha hb I (t2 h (t:=fun v u H1=>∃O P x y r,(∀a,a∈P++O->∃o,H a=some o)/\aE H H1/\RE O P H H1 x v/\RE O P H H1 y u/\g x y=some r/\Fn E O P H H1 Q r) fun O P x y r v u H1 h1 h2 h3 h4 h5 h6=>⟨O,P,x,y,r,h1,h2,h3,h4,h5,h6⟩)
  fun vv uu s2 v u H2 I2 rv ru ⟨O,P,x,y,r,h1,h2,h3,h4,h5,h6⟩=>ho pins s2 σ O P H H2 x y v u vv uu r Q I2 h1 h2 h3 h4 rv ru h5 h6) hm
noncomputable def gI (C:Int->Int->Bool) (h:Int->Int->D) (x y:DV):M DV:=match x,y with
 |.d (.int i),.d (.int j)=>if C i j=true then rt (.d (h i j)) else none
 |_,_=>none
theorem uN {C:Int->Int->Bool} {h:Int->Int->D} {y:DV} (e:gI C h x y=some r):∃i j,x=.d (.int i)/\y=.d (.int j)/\C i j=true/\r=.ok (.d (h i j)):=by
 unfold gI at e;split at e
 ·rename_i i j;split at e
  ·cases e; exact ⟨i,j,rfl,rfl,by assumption,rfl⟩
  ·cases e
 ·cases e
theorem sX {f:Value->Value->Sem Value} {C:Int->Int->Bool} {CP:Int->Int->Prop} {h:Int->Int->D} {hv:Int->Int->V} (ho:qO X f (rI CP hv)) (hC:∀i j,C i j=true->CP i j) (hr:∀i j Z H,Rp Z H (h i j) (hv i j)):gL X E f (gI C h):=
 gL.rule ho fun O P H₀ H x y v u r Q hd hs rx ry e q=>by
  obtain ⟨i,j,rfl,rfl,hc,rfl⟩:=uN e;cases rx; cases ry
  exact ⟨i,j,rfl,rfl,hC i j hc,q _ H (aE.refl H) (hr i j _ _)⟩
noncomputable def vx (_ _:Int):Bool:=true
theorem iq {f:Value->Value->Sem Value} {h:Int->Int->D} {hv:Int->Int->V} (ho:qO X f (EU hv)) (hr:∀i j Z H,Rp Z H (h i j) (hv i j)):gL X E f (gI vx h):=
 gL.rule ho fun O P H₀ H x y v u r Q hd hs rx ry e q=>by
  obtain ⟨i,j,rfl,rfl,hc,rfl⟩:=uN e;cases rx; cases ry
  exact ⟨i,j,rfl,rfl,q _ H (aE.refl H) (hr i j _ _)⟩
noncomputable def Aw:=gI vx fun i j=>.int (i+j)
noncomputable def gSub:=gI vx fun i j=>.int (i-j)
noncomputable def vR (i j:Int):Bool:=(decide (-(2 ^ 64)<i)&&decide (i<2 ^ 64))||(decide (-(2 ^ 64)<j)&&decide (j<2 ^ 64))
noncomputable def G0:=gI vR fun i j=>.int (i*j)
noncomputable def GX (_ j:Int):Bool:=decide (0<j)&&decide (j<1073741824)
noncomputable def Ai:=gI GX fun i j=>.int (i / j)
noncomputable def Hq (_ j:Int):Bool:=decide (0<j)
noncomputable def kl:=gI Hq fun i j=>.int (i % j)
noncomputable def JP:=gI vx fun i j=>.bool (decide (i<j))
noncomputable def JL:=gI vx fun i j=>.bool (decide (i<=j))
noncomputable def wz:=gI vx fun i j=>.bool (decide (j<i))
noncomputable def CF:=gI vx fun i j=>.bool (decide (j<=i))
theorem Hu:gL X E (binaryOp .Add) Aw:=iq Gw fun _ _ _ _=>.int _
theorem fV:gL X E (binaryOp .Sub) gSub:=iq GI fun _ _ _ _=>.int _
theorem Hi:gL X E (binaryOp .Mult) G0:=sX GL (fun i j h=>by simpa [vR,CY] using h) fun _ _ _ _=>.int _
theorem BK:gL X E (binaryOp .FloorDiv) Ai:=sX CV (fun i j h=>by simpa [GX,IL] using h) fun _ _ _ _=>.int _
theorem jt:gL X E (binaryOp .Mod) kl:=sX Ht (fun i j h=>by simpa [Hq] using h) fun _ _ _ _=>.int _
theorem IM:gL X E (compareOp .Lt) JP:=iq IJ fun _ _ _ _=>.bool _
theorem IF:gL X E (compareOp .LtE) JL:=iq IP fun _ _ _ _=>.bool _
theorem xU:gL X E (compareOp .Gt) wz:=iq Jc fun _ _ _ _=>.bool _
theorem uE:gL X E (compareOp .GtE) CF:=iq Im fun _ _ _ _=>.bool _
end
noncomputable def cI (st:Bool) (i j:Int):Bool:=if st=true then decide (i<j) else decide (i<=j)
noncomputable def cS (st:Bool) (x y:Str):Bool:=if st=true then decide (x.cps.toList<y.cps.toList) else !decide (y.cps.toList<x.cps.toList)
mutual
noncomputable def cD (st:Bool):PyData->PyData->Option Bool
 |.int i,.int j=>some (cI st i j)
 |.str x,.str y=>some (cS st x y)
 |.tuple xs,.tuple ys=>cL st xs ys
 |_,_=>none
noncomputable def cL (st:Bool):List PyData->List PyData->Option Bool
 |[],[]=>some (!st)
 |[],_::_=>some true
 |_::_,[]=>some false
 |x::xs,y::ys=>if PyData.eqv x y=true then cL st xs ys else cD st x y
end
noncomputable def Kw (st:Bool):CmpOp:=if st=true then .Lt else .LtE
def JE (A:Around) (s:Shared) (st:Bool) (a b:Value) (k:Bool):Prop:=
 ∀(prog:Program) (w:World) (E:Value->Shared->Prop) (Q:Value->Shared->Prop),Q (.bool k) s->wpAny (model prog w) A (richCompare (Kw st) a b) Q E s
theorem ve {st:Bool} {k:Bool}:∀{xs ys:List PyData} {vs ws:List Value} {as bs:List Addr} {h:Heap},ReadsAll h vs xs as->ReadsAll h ws ys bs->vs.zip ws=[]->cL st xs ys=some k ->
  k=(if st=true then decide (vs.length<ws.length) else decide (vs.length<=ws.length))
 |_,_,_,_,_,_,_,.nil,.nil,_,e=>by
  unfold cL at e; cases e; cases st <;> rfl
 |_,_,_,_,_,_,_,.nil,.cons _ _,_,e=>by
  unfold cL at e; cases e; cases st <;> simp
 |_,_,_,_,_,_,_,.cons _ _,.nil,_,e=>by
  unfold cL at e; cases e; cases st <;> simp
 |_,_,_,_,_,_,_,.cons _ _,.cons _ _,z,_=>by cases z
section
open PySem.SeqAt
open PySem.AutoSeq1 (wpAny_loadPart')
open PySem.MeetsSeq PySem.MeetsSeq2 PySem.MeetsSeq3
theorem qo (l b:Addr) (items LY:Array Value) (n n2:Nat) (dd Ob:Option Addr) (sl NM:Array (Option Value)) (xs ys:List PyData) (k:Bool) (hk:cL true xs ys=some k)
  (ih:∀(A:Around) (s:Shared) (x y:PyData) (a c:Value) (as bs:List Addr) (j:Bool),x∈xs->Reads s.heap a x as->Reads s.heap c y bs->x.canLay0=true->y.canLay0=true->A.units+x.depth<cLine->cD true x y=some j->JE A s true a c j) :
  Meets (Builtin.«tuple.__lt__» ⟨[.ref l,.ref b],[]⟩)
   (fun A R s=>s.heap.get? l=some { cls:=.type "tuple",dict:=dd,data:=.seq items n,slots:=sl }/\s.heap.get? b=some { cls:=.type "tuple",dict:=Ob,data:=.seq LY n2,slots:=NM } /\
    (∃as,ReadsAll s.heap items.toList xs as)/\(∃as,ReadsAll s.heap LY.toList ys as)/\PyData.canLayAll0 xs=true/\PyData.canLayAll0 ys=true/\A.units+1+PyData.depthAll xs<cLine/\R (.ok (.ret (.bool k))) s):=
 .of_wp fun prog w A R s h=>by
  obtain ⟨hp,g,d,tk,os⟩:=s; obtain ⟨hl,hb,⟨as,hi⟩,⟨bs,hj⟩,c1,c2,hu,h⟩:=h
  have f2:=AutoSeq1.sub_tuple_tuple
  wp_walk using wpAny_loadPart' hl,wpAny_loadPart' hb,wpAny_forIn_list _ (fun cy b s'=>b.1=none/\s'=⟨hp,g,d,tk,os⟩/\∃(vs ws:List Value) (M5 NO:List PyData) (Ny OK:List Addr),cy=vs.zip ws /\
   ReadsAll hp vs M5 Ny/\ReadsAll hp ws NO OK/\vs.length+LY.size=ws.length+items.size/\(∀x∈M5,x∈xs)/\PyData.canLayAll0 M5=true/\PyData.canLayAll0 NO=true/\PyData.depthAll M5<=PyData.depthAll xs/\cL true M5 NO=some k) _
  case turn=>
   rintro ⟨y,x⟩ cy b s' ⟨My,rfl,vs,ws,M5,NO,Ny,OK,hz,O3,OR,hlen,Ma,l1,l2,NG,hc⟩;cases O3 with
   |nil=>rw [List.zip_nil_left] at hz; cases hz
   |@cons v1 vs1 x1 xs1 a1 as1 rv OQ=>
    cases OR with
    |nil=>rw [List.zip_nil_right] at hz; cases hz
    |@cons w1 ws1 y1 ys1 b1 bs1 rw1 Oz=>
     rw [List.zip_cons_cons] at hz
     injection hz with hyx Nu
     injection hyx with hy hx
     subst hy hx;unfold PyData.canLayAll0 at l1 l2;rw [Bool.and_eq_true] at l1 l2;unfold cL at hc;have OH:PyData.depthAll (x1::xs1)=max x1.depth (PyData.depthAll xs1):=by rw [PyData.depthAll]
     rw [OH] at NG;simp only [List.length_cons] at hlen;have he:=eqAt_reads x1 y1 A.in1 ⟨hp,g,d,tk,os⟩ _ _ _ _ rv rw1 l1.1 l2.1 (by show A.units+1+_<cLine; lia);refine La (he prog w _ _ ?_);cases e:PyData.eqv x1 y1 with
     |true=>
      rw [e,if_pos rfl] at hc
      wp_walk
      exact ⟨rfl,rfl,_,_,_,_,_,_,Nu,OQ,Oz,0x1,fun z hz=>Ma z (K3 _ hz),l1.2,l2.2,0x1,hc⟩
     |false=>
      rw [e,if_neg Bool.false_ne_true] at hc;have hri:∀(E:Value->Shared->Prop) (Q:Value->Shared->Prop),Q (.bool k) ⟨hp,g,d,tk,os⟩->wpAny (model prog w) A.in1 (richCompare .Lt _ _) Q E ⟨hp,g,d,tk,os⟩:=ih A.in1 ⟨hp,g,d,tk,os⟩ x1 y1 _ _ _ _ k (Ma x1 K5) rv rw1 l1.1 l2.1 (by show A.units+1+_<cLine; lia) hc prog w
      wp_walk using hri
      exact ⟨_,rfl,by simpa using h⟩
  case fin=>
   rintro ⟨b1,b2⟩ s' ⟨My,rfl,vs,ws,M5,NO,Ny,OK,hz,O3,OR,hlen,Ma,l1,l2,NG,hc⟩;simp only at My;subst My;have hv:=ve O3 OR hz.symm hc;simp only [if_true] at hv;have hv2:decide (vs.length<ws.length)=decide (items.size<LY.size):=by
    by_cases q:vs.length<ws.length
    ·rw [Lz q,Lz 0x1]
    ·rw [Ly q,Ly 0x1]
   rw [hv2] at hv;rw [hv] at h
   wp_walk
   exact ⟨_,rfl,by simpa [Builtin.Tuple.tupleCompareSizes] using h⟩
  case h=>
   exact ⟨rfl,rfl,items.toList,LY.toList,xs,ys,as,bs,rfl,hi,hj,by simp; lia,fun _ hx=>hx,c1,c2,K9 _,hk⟩
theorem qG (l b:Addr) (items LY:Array Value) (n n2:Nat) (dd Ob:Option Addr) (sl NM:Array (Option Value)) (xs ys:List PyData) (k:Bool) (hk:cL false xs ys=some k)
  (ih:∀(A:Around) (s:Shared) (x y:PyData) (a c:Value) (as bs:List Addr) (j:Bool),x∈xs->Reads s.heap a x as->Reads s.heap c y bs->x.canLay0=true->y.canLay0=true->A.units+x.depth<cLine->cD false x y=some j->JE A s false a c j) :
  Meets (Builtin.«tuple.__le__» ⟨[.ref l,.ref b],[]⟩)
   (fun A R s=>s.heap.get? l=some { cls:=.type "tuple",dict:=dd,data:=.seq items n,slots:=sl }/\s.heap.get? b=some { cls:=.type "tuple",dict:=Ob,data:=.seq LY n2,slots:=NM } /\
    (∃as,ReadsAll s.heap items.toList xs as)/\(∃as,ReadsAll s.heap LY.toList ys as)/\PyData.canLayAll0 xs=true/\PyData.canLayAll0 ys=true/\A.units+1+PyData.depthAll xs<cLine/\R (.ok (.ret (.bool k))) s):=
 .of_wp fun prog w A R s h=>by
  obtain ⟨hp,g,d,tk,os⟩:=s; obtain ⟨hl,hb,⟨as,hi⟩,⟨bs,hj⟩,c1,c2,hu,h⟩:=h
  have f2:=AutoSeq1.sub_tuple_tuple
  wp_walk using wpAny_loadPart' hl,wpAny_loadPart' hb,wpAny_forIn_list _ (fun cy b s'=>b.1=none/\s'=⟨hp,g,d,tk,os⟩/\∃(vs ws:List Value) (M5 NO:List PyData) (Ny OK:List Addr),cy=vs.zip ws /\
   ReadsAll hp vs M5 Ny/\ReadsAll hp ws NO OK/\vs.length+LY.size=ws.length+items.size/\(∀x∈M5,x∈xs)/\PyData.canLayAll0 M5=true/\PyData.canLayAll0 NO=true/\PyData.depthAll M5<=PyData.depthAll xs/\cL false M5 NO=some k) _
  case turn=>
   rintro ⟨y,x⟩ cy b s' ⟨My,rfl,vs,ws,M5,NO,Ny,OK,hz,O3,OR,hlen,Ma,l1,l2,NG,hc⟩;cases O3 with
   |nil=>rw [List.zip_nil_left] at hz; cases hz
   |@cons v1 vs1 x1 xs1 a1 as1 rv OQ=>
    cases OR with
    |nil=>rw [List.zip_nil_right] at hz; cases hz
    |@cons w1 ws1 y1 ys1 b1 bs1 rw1 Oz=>
     rw [List.zip_cons_cons] at hz
     injection hz with hyx Nu
     injection hyx with hy hx
     subst hy hx;unfold PyData.canLayAll0 at l1 l2;rw [Bool.and_eq_true] at l1 l2;unfold cL at hc;have OH:PyData.depthAll (x1::xs1)=max x1.depth (PyData.depthAll xs1):=by rw [PyData.depthAll]
     rw [OH] at NG;simp only [List.length_cons] at hlen;have he:=eqAt_reads x1 y1 A.in1 ⟨hp,g,d,tk,os⟩ _ _ _ _ rv rw1 l1.1 l2.1 (by show A.units+1+_<cLine; lia);refine La (he prog w _ _ ?_);cases e:PyData.eqv x1 y1 with
     |true=>
      rw [e,if_pos rfl] at hc
      wp_walk
      exact ⟨rfl,rfl,_,_,_,_,_,_,Nu,OQ,Oz,0x1,fun z hz=>Ma z (K3 _ hz),l1.2,l2.2,0x1,hc⟩
     |false=>
      rw [e,if_neg Bool.false_ne_true] at hc;have hri:∀(E:Value->Shared->Prop) (Q:Value->Shared->Prop),Q (.bool k) ⟨hp,g,d,tk,os⟩->wpAny (model prog w) A.in1 (richCompare .LtE _ _) Q E ⟨hp,g,d,tk,os⟩:=ih A.in1 ⟨hp,g,d,tk,os⟩ x1 y1 _ _ _ _ k (Ma x1 K5) rv rw1 l1.1 l2.1 (by show A.units+1+_<cLine; lia) hc prog w
      wp_walk using hri
      exact ⟨_,rfl,by simpa using h⟩
  case fin=>
   rintro ⟨b1,b2⟩ s' ⟨My,rfl,vs,ws,M5,NO,Ny,OK,hz,O3,OR,hlen,Ma,l1,l2,NG,hc⟩;simp only at My;subst My;have hv:=ve O3 OR hz.symm hc;simp only [Bool.false_eq_true,if_false] at hv;have hv2:decide (vs.length<=ws.length)=decide (items.size<=LY.size):=by
    by_cases q:vs.length<=ws.length
    ·rw [Lz q,Lz 0x1]
    ·rw [Ly q,Ly 0x1]
   rw [hv2] at hv;rw [hv] at h
   wp_walk
   exact ⟨_,rfl,by simpa [Builtin.Tuple.tupleCompareSizes] using h⟩
  case h=>
   exact ⟨rfl,rfl,items.toList,LY.toList,xs,ys,as,bs,rfl,hi,hj,by simp; lia,fun _ hx=>hx,c1,c2,K9 _,hk⟩
end
theorem m8:∀(n:Nat) (st:Bool) (da db:PyData) (A:Around) (s:Shared) (a b:Value) (as bs:List Addr) (k:Bool),sizeOf da<n->Reads s.heap a da as->Reads s.heap b db bs->da.canLay0=true->db.canLay0=true ->
  A.units+da.depth<cLine->cD st da db=some k->JE A s st a b k
 |0,_,_,_,_,_,_,_,_,_,_,h,_,_,_,_,_,_=>absurd h (Nat.not_lt_zero _)
 |n+1,st,da,db,A,s,a,b,as,bs,k,hn,ra,rb,ha,hb,hu,hk=>by
  intro prog w E Q hQ;cases ra with
  |none=>cases db <;> simp [cD] at hk
  |bool x=>cases db <;> simp [cD] at hk
  |list _ _ _ _=>cases db <;> simp [cD] at hk
  |dict _ _ _ _ _=>cases db <;> simp [cD] at hk
  |int i t=>
   cases rb with
   |int j u=>
    simp only [cD] at hk;cases hk;cases st with
    |true=>exact (PyProof.Rows.lt_int hQ:wpAny (model prog w) A (compareOp .Lt (.int i t) (.int j u)) Q E s)
    |false=>exact (PyProof.Rows.le_int hQ:wpAny (model prog w) A (compareOp .LtE (.int i t) (.int j u)) Q E s)
   |_=>simp [cD] at hk
  |str x t=>
   cases rb with
   |str y u=>
    simp only [cD] at hk;cases hk;cases st with
    |true=>exact (PySem.P.lt_str hQ:wpAny (model prog w) A (compareOp .Lt (.str x t) (.str y u)) Q E s)
    |false=>exact (PySem.P.le_str (by simpa [cS] using hQ):wpAny (model prog w) A (compareOp .LtE (.str x t) (.str y u)) Q E s)
   |_=>simp [cD] at hk
  |@tuple a o vs n1 xs as e1 c1 d1 l1=>
   cases rb with
   |@tuple b o2 ws n2 ys bs e2 c2 d2 l2=>
    simp only [cD] at hk;unfold PyData.canLay0 at ha hb;unfold PyData.depth at hu;obtain ⟨cls,dd,data,sl⟩:=o;obtain ⟨cls2,Ob,data2,NM⟩:=o2;simp only at c1 d1 c2 d2;subst c1 d1 c2 d2;have ih:∀(A:Around) (s:Shared) (x y:PyData) (a c:Value) (as bs:List Addr) (j:Bool),x∈xs->Reads s.heap a x as->Reads s.heap c y bs->x.canLay0=true->y.canLay0=true->A.units+x.depth<cLine->cD st x y=some j->JE A s st a c j:=
     fun A s x y a c as bs j hx r1 r2 k1 k2 hu' hj=>m8 n st x y A s a c as bs j (by
      have:=List.sizeOf_lt_of_mem hx;simp only [PyData.tuple.sizeOf_spec] at hn;lia) r1 r2 k1 k2 hu' hj
    cases st with
    |true=>
     exact richCompare_meets_room (op:=.Lt) ⟨_,e1,rfl⟩ ⟨_,e2,rfl⟩ PySem.F.slot_tuple_lt PySem.F.entry_tuple_lt (PySem.F.args_tuple_lt_2 _ _) (qo a b vs ws n1 n2 dd Ob sl NM xs ys k hk ih)
      ⟨e1,e2,⟨_,l1⟩,⟨_,l2⟩,ha,hb,0x1,show Value.bool k≠Value.notImplemented/\Q (.bool k) s from ⟨(fun x=>nomatch x),hQ⟩⟩ 0x1
    |false=>
     exact richCompare_meets_room (op:=.LtE) ⟨_,e1,rfl⟩ ⟨_,e2,rfl⟩ PySem.F.slot_tuple_le PySem.F.entry_tuple_le (PySem.F.args_tuple_le_2 _ _) (qG a b vs ws n1 n2 dd Ob sl NM xs ys k hk ih)
      ⟨e1,e2,⟨_,l1⟩,⟨_,l2⟩,ha,hb,0x1,show Value.bool k≠Value.notImplemented/\Q (.bool k) s from ⟨(fun x=>nomatch x),hQ⟩⟩ 0x1
   |_=>simp [cD] at hk
noncomputable def nz:DV->Option D
 |.d x=>some x
 |.own xs=>some (.list xs)
 |.new xs=>some (.list xs)
 |_=>none
@[simp] theorem rR (x:D):nz (.d x)=some x:=rfl
@[simp] theorem tT (xs:List D):nz (.own xs)=some (.list xs):=rfl
@[simp] theorem sG (xs:List D):nz (.new xs)=some (.list xs):=rfl
section
variable {X:Cx} {E:XK}
variable {vs:List V}
theorem pJ {pins:List (Addr×Obj)} {σ:St} (I:Inv X pins σ H s) (q:H a=some (.lst vs)) (l:RpL Z H xs vs):∃as,Reads s.heap (.ref a) (.list xs) as:=by
 obtain ⟨D',rv,⟨o,n,e,c,_,dd⟩,_⟩:=I.list (eN.of q);obtain ⟨as,ra⟩:=RpL.reads I l rv;exact ⟨_,.list e c dd (by simpa using ra)⟩
theorem RE.reads {pins:List (Addr×Obj)} {σ:St} {O P:List Addr} {H₀ H:Hp} {s:Shared} {x:DV} {v:V} {u:Value} {d:D} (I:Inv X pins σ H s) (r:RE O P H₀ H x v) (ru:bA v u) (h:nz x=some d):(∃as,Reads s.heap u d as)/\d.canLay0=true:=by
 cases x with
 |d y=>
  cases h;have r':Rp (P++O) H d v:=r;exact ⟨Rp.reads I r' ru,r'.lay⟩
 |ob C fs=>cases h
 |fz kvs=>cases h
 |ex q=>cases h
 |tpo p xs q=>cases h
 |nwt p xs q=>cases h
 |own xs=>
  cases h;obtain ⟨a,vs,rfl,hP,ha,hl⟩:=r;cases ru;exact ⟨pJ I ha hl,by unfold PyData.canLay0; exact hl.lay⟩
 |new xs=>
  cases h;obtain ⟨a,vs,rfl,hn,ha,hl⟩:=r;cases ru;exact ⟨pJ I ha hl,by unfold PyData.canLay0; exact hl.lay⟩
 |scr K ns=>cases h
noncomputable def iG (neg:Bool) (x y:DV):M DV:=match nz x,nz y with
 |some a,some b=>if a.depth<=60 then rt (.d (.bool (if neg=true then !PyData.eqv a b else PyData.eqv a b))) else none
 |_,_=>none
variable {y:DV}
theorem qP {neg:Bool} (e:iG neg x y=some r):∃a b,nz x=some a/\nz y=some b/\a.depth<=60/\r=.ok (.d (.bool (if neg=true then !PyData.eqv a b else PyData.eqv a b))):=by
 unfold iG at e;split at e
 ·rename_i a b h1 h2;split at e
  ·cases e; exact ⟨a,b,h1,h2,by assumption,rfl⟩
  ·cases e
 ·cases e
theorem lZ (hu:X.A.units+64<cLine):gL X E (compareOp .Eq) (iG false):=fun pins s σ O P H₀ H x y v u vv uu r Q I hd hs rx ry ev eu e q=>by
 obtain ⟨a,b,h1,h2,NG,rfl⟩:=qP e;obtain ⟨⟨as,ra⟩,la⟩:=rx.reads I ev h1;obtain ⟨⟨bs,rb⟩,lb⟩:=ry.reads I eu h2;exact SeqAt.compareEq_reads ra rb la lb (by have:=Nat.min_le_left a.depth b.depth; lia) ⟨.bl _,H,I,rfl,q _ H (aE.refl H) (.bool _)⟩
theorem xF (hu:X.A.units+64<cLine):gL X E (compareOp .NotEq) (iG true):=fun pins s σ O P H₀ H x y v u vv uu r Q I hd hs rx ry ev eu e q=>by
 obtain ⟨a,b,h1,h2,NG,rfl⟩:=qP e;obtain ⟨⟨as,ra⟩,la⟩:=rx.reads I ev h1;obtain ⟨⟨bs,rb⟩,lb⟩:=ry.reads I eu h2;exact SeqAt.compareNe_reads ra rb la lb (by have:=Nat.min_le_left a.depth b.depth; lia) ⟨.bl _,H,I,rfl,q _ H (aE.refl H) (.bool _)⟩
noncomputable def vZ (neg:Bool) (x y:DV):M DV:=match nz x,nz y with
 |some a,some (.list ys)=>if a.depth<=60 then rt (.d (.bool (if neg=true then !ys.any (fun z=>PyData.eqv z a) else ys.any fun z=>PyData.eqv z a))) else none
 |some a,some (.tuple ys)=>if a.depth<=60 then rt (.d (.bool (if neg=true then !ys.any (fun z=>PyData.eqv z a) else ys.any fun z=>PyData.eqv z a))) else none
 |_,_=>none
theorem qN {neg:Bool} (e:vZ neg x y=some r):∃a ys,nz x=some a/\(nz y=some (.list ys)\/nz y=some (.tuple ys))/\a.depth<=60/\r=.ok (.d (.bool (if neg=true then !ys.any (fun z=>PyData.eqv z a) else ys.any fun z=>PyData.eqv z a))):=by
 unfold vZ at e;split at e
 ·rename_i a b h1 h2;split at e
  ·cases e; exact ⟨a,_,h1,.inl h2,by assumption,rfl⟩
  ·cases e
 ·rename_i a b h1 h2;split at e
  ·cases e; exact ⟨a,_,h1,.inr h2,by assumption,rfl⟩
  ·cases e
 ·cases e
theorem Fj (hu:X.A.units+64<cLine):gL X E (compareOp .In) (vZ false):=fun pins s σ O P H₀ H x y v u vv uu r Q I hd hs rx ry ev eu e q=>by
 obtain ⟨a,ys,h1,h2,NG,rfl⟩:=qN e;obtain ⟨⟨as,ra⟩,la⟩:=rx.reads I ev h1;rcases h2 with h2|h2
 ·obtain ⟨⟨bs,rb⟩,lb⟩:=ry.reads I eu h2;unfold PyData.canLay0 at lb;exact SeqAt.in_list_reads rb ra lb la (by have:=Nat.min_le_right (PyData.depthAll ys) a.depth; lia) ⟨.bl _,H,I,rfl,q _ H (aE.refl H) (.bool _)⟩
 ·obtain ⟨⟨bs,rb⟩,lb⟩:=ry.reads I eu h2;unfold PyData.canLay0 at lb;exact SeqAt.in_tuple_reads rb ra lb la (by have:=Nat.min_le_right (PyData.depthAll ys) a.depth; lia) ⟨.bl _,H,I,rfl,q _ H (aE.refl H) (.bool _)⟩
theorem zS (hu:X.A.units+64<cLine):gL X E (compareOp .NotIn) (vZ true):=fun pins s σ O P H₀ H x y v u vv uu r Q I hd hs rx ry ev eu e q=>by
 obtain ⟨a,ys,h1,h2,NG,rfl⟩:=qN e;obtain ⟨⟨as,ra⟩,la⟩:=rx.reads I ev h1;rcases h2 with h2|h2
 ·obtain ⟨⟨bs,rb⟩,lb⟩:=ry.reads I eu h2;unfold PyData.canLay0 at lb;exact SeqAt.notIn_list_reads rb ra lb la (by have:=Nat.min_le_right (PyData.depthAll ys) a.depth; lia) ⟨.bl _,H,I,rfl,q _ H (aE.refl H) (.bool _)⟩
 ·obtain ⟨⟨bs,rb⟩,lb⟩:=ry.reads I eu h2;unfold PyData.canLay0 at lb;exact SeqAt.notIn_tuple_reads rb ra lb la (by have:=Nat.min_le_right (PyData.depthAll ys) a.depth; lia) ⟨.bl _,H,I,rfl,q _ H (aE.refl H) (.bool _)⟩
noncomputable def gC (st:Bool) (x y:DV):M DV:=match x,y with
 |.d a,.d b=>if a.depth<=60 then bd (op (cD st a b)) fun k=>rt (.d (.bool k)) else none
 |_,_=>none
theorem Bj (st:Bool) (hu:X.A.units+64<cLine):gL X E (compareOp (Kw st)) (gC st):=fun pins s σ O P H₀ H x y v u vv uu r Q I hd hs rx ry ev eu e q=>by
 unfold gC at e;split at e
 ·rename_i a b;split at e
  ·rename_i NG;cases hk:cD st a b with
   |none=>rw [hk] at e; cases e
   |some k=>
    rw [hk] at e;cases e;obtain ⟨⟨as,ra⟩,la⟩:=rx.reads I ev (d:=a) rfl;obtain ⟨⟨bs,rb⟩,lb⟩:=ry.reads I eu (d:=b) rfl;have h:=m8 _ st a b X.A s vv uu as bs k (Nat.lt_succ_self _) ra rb la lb 0x1 hk X.prog X.w X.xe (EP X pins σ Q) ⟨.bl _,H,I,rfl,q _ H (aE.refl H) (.bool _)⟩;cases st with
    |true=>exact h
    |false=>exact h
  ·cases e
 ·cases e
theorem GD (hu:X.A.units+64<cLine):gL X E (compareOp .Lt) (gC true):=Bj true hu
theorem Hk (hu:X.A.units+64<cLine):gL X E (compareOp .LtE) (gC false):=Bj false hu
noncomputable def Cv (x y:DV):M DV:=match ma x,ma y with
 |some xs,some ys=>if xs.length+ys.length<=1000000 then rt (.new (xs++ys)) else none
 |_,_=>none
theorem line_big (h:n<=1000000):n<=sizeLine:=Lw h (by rw [sizeLine_eq]; decide)
variable {p:Addr}
theorem CQ (hd:∀a,a∈P++O->∃o,H₀ a=some o) (hs:aE H₀ H) (hp:H p=none):p∉P++O:=fun h=>by
 obtain ⟨o,e⟩:=hd p h;rw [hs p o e] at hp; cases hp
theorem bb {o:HO} (hp:H p=none):aE H (upd H p o):=fun b u e=>by rw [aD (bK e hp)]; exact e
theorem HQ {o:HO} (hp:H p=none):Kp Z H (p::Z) (upd H p o):=⟨fun a u _ e=>bb hp a u e,fun a ha=>by
 rcases Lj.mp ha with e|e
 ·subst e; exact .inr hp
 ·exact .inl e⟩
theorem RE.made (hs:aE H₀ H) (hp:H p=none) (l:RpL (P++O) H xs vs):RE O P H₀ (upd H p (.lst vs)) (.new xs) (.ref p):=
 ⟨p,vs,rfl,hs.free hp,aM,l.kp (HQ hp)⟩
theorem Am (hd:∀a,a∈P++O->∃o,H₀ a=some o) (hs:aE H₀ H) (hp:H p=none) (l:RpL (P++O) H xs vs):RE O P H₀ (upd H p (.tup vs)) (.d (.tuple xs)) (.ref p):=
 .tup (CQ hd hs hp) aM (l.kp (.same (bb hp)))
theorem vy (e:Cv x y=some r):∃xs ys,ma x=some xs/\ma y=some ys/\xs.length+ys.length<=1000000/\r=.ok (.new (xs++ys)):=by
 unfold Cv at e;split at e
 ·rename_i xs ys h1 h2;split at e
  ·cases e; exact ⟨xs,ys,h1,h2,by assumption,rfl⟩
  ·cases e
 ·cases e
theorem Ha:gL X E (binaryOp .Add) Cv:=gL.rule GB fun O P H₀ H x y v u r Q hd hs rx ry e q=>by
 obtain ⟨xs,ys,h1,h2,hz,rfl⟩:=vy e;obtain ⟨a,vs,rfl,ha,la⟩:=rx.list h1;obtain ⟨b,us,rfl,hb,lb⟩:=ry.list h2;exact ⟨a,b,vs,us,rfl,rfl,ha,hb,line_big (by rw [<-la.length,<-lb.length]; exact hz),fun p hp=>q _ _ (bb hp) (RE.made hs hp (la.append lb))⟩
noncomputable def HJ (x y:DV):M DV:=match ma x,y with
 |some xs,.d (.int k)=>if xs.length*k.toNat<=1000000/\-(2 ^ 63)<=k/\k<2 ^ 63 then rt (.new (List.replicate k.toNat xs).flatten) else none
 |_,_=>none
theorem Hd:gL X E (binaryOp .Mult) HJ:=gL.rule GY fun O P H₀ H x y v u r Q hd hs rx ry e q=>by
 unfold HJ at e;split at e
 ·rename_i xs k h1;split at e
  ·rename_i hz;cases e;obtain ⟨a,vs,rfl,ha,la⟩:=rx.list h1;cases ry;exact ⟨a,k,vs,rfl,rfl,ha,hz.2.1,hz.2.2,line_big (by rw [<-la.length]; exact hz.1),fun p hp=>q _ _ (bb hp) (RE.made hs hp (la.rep _))⟩
  ·cases e
 ·cases e
noncomputable def CK (g g':DV->DV->M DV) (x y:DV):M DV:=match g x y with
 |none=>g' x y
 |some r=>some r
theorem gL.or {f:Value->Value->Sem Value} {g g':DV->DV->M DV} (h:gL X E f g) (h':gL X E f g'):gL X E f (CK g g'):=fun pins s σ O P H₀ H x y v u vv uu r Q I hd hs rx ry ev eu e q=>by
 unfold CK at e;cases hg:g x y with
 |none=>rw [hg] at e; exact h' pins s σ O P H₀ H x y v u vv uu r Q I hd hs rx ry ev eu e q
 |some r'=>rw [hg] at e; cases e; exact h pins s σ O P H₀ H x y v u vv uu r Q I hd hs rx ry ev eu hg q
end
theorem Cz {γ:Type} (m:M α) (f:α->M β) (g:β->M γ):bd (bd m f) g=bd m fun a=>bd (f a) g:=by
 cases m with
 |none=>rfl
 |some z=>cases z <;> rfl
noncomputable def bR:DV->M Bool
 |.d (.bool b)=>rt b
 |_=>none
@[simp] theorem xC (b:Bool):bR (.d (.bool b))=rt b:=rfl
theorem m7 {r:Except Value Bool} (h:bR x=some r):∃b,x=.d (.bool b)/\r=.ok b:=by
 unfold bR at h;split at h
 ·rename_i b;cases h; exact ⟨b,rfl,rfl⟩
 ·cases h
section
variable {X:Cx} {E:XK} {a b c e:Expr} {pos:Pos} {fa fb fc f:DS->M DV} {ga gb:DS->M Bool}
theorem sD {r:Except Value Bool} {Q:Bool->Hp->Prop} (rx:RE O P H₀ H x v) (h:bR x=some r) (q:CA E H Q r):∃k,v=.bl k/\Q k H:=by
 obtain ⟨k,rfl,rfl⟩:=m7 h;cases rx;exact ⟨k,rfl,q H (aE.refl H)⟩
theorem k9 (h:PX X E e f) (he:∀whole,isTrue e X.env whole=(do let v <-whole; standAt e.pos; holding [v] (truthy v)):=by intro _; rfl):PB X E e (fun δ=>bd (f δ) bR):=
 PT.mono (HM h he) fun σ H Q q=>sJ (g:=fun _=>bR) q fun O P δ x r v H1 rs LK s1 rx e' q'=>sD rx e' q'
variable {g:DV->DV->M DV} {σ:St}
theorem KI {Q:Bool->Hp->Prop} (h:zX E (fun δ=>bd (e2 g fa fb δ) bR) σ H Q) {t:V->V->Hp->Prop}
  (k:∀O P x y r v u H1,(∀a,a∈P++O->∃o,H a=some o)->aE H H1->RE O P H H1 x v->RE O P H H1 y u->bd (g x y) bR=some r->CA E H1 Q r->t v u H1) :
  tE E fa σ H fun v H1=>tE E fb σ H1 fun u H2=>t v u H2:=by
 have h':zX E (fun δ=>bd (fa δ) fun x=>bd (bd (fb δ) fun y=>g x y) bR) σ H Q:=by
  obtain ⟨O,P,δ,r,rs,e,q⟩:=h;exact ⟨O,P,δ,r,rs,(Cz _ _ _).symm.trans e,q⟩
 refine sJ (g:=fun δ x=>bd (bd (fb δ) fun y=>g x y) bR) h' fun O P δ x r v H1 rs LK s1 rx e q=>?_;rcases ax e with ⟨z,e1,e2⟩|⟨c,e1,e2⟩
 ·rcases ax e1 with ⟨y,e3,e4⟩|⟨c,e3,e4⟩
  ·exact ⟨O,P,δ,.ok y,LK,e3,fun u H2 s2 ry=>k O P x y r v u H2 rs.dom (s1.trans s2) (rx.on s2) (ry.from s1) (by rw [e4]; exact e2) (q.on s2)⟩
  ·cases e4
 ·rcases ax e1 with ⟨y,e3,e4⟩|⟨c',e3,e4⟩
  ·exact ⟨O,P,δ,.ok y,LK,e3,fun u H2 s2 ry=>k O P x y r v u H2 rs.dom (s1.trans s2) (rx.on s2) (ry.from s1) (by rw [e4]; subst e2; rfl) (q.on s2)⟩
  ·cases e4;subst e2;exact ⟨O,P,δ,.error c,LK,e3,q⟩
theorem gL.test {o:Value->Value->Sem Value} (ho:gL X E o g) {pins:List (Addr×Obj)} {y:DV} {u:V} {vv uu:Value} {r:Except Value Bool} {Q:Bool->Hp->Prop}
  (I:Inv X pins σ H s) (hd:∀a,a∈P++O->∃o,H₀ a=some o) (hs:aE H₀ H) (rx:RE O P H₀ H x v) (ry:RE O P H₀ H y u) (ev:bA v vv) (eu:bA u uu) (e:bd (g x y) bR=some r) (q:CA E H Q r) :
  wpAny (model X.prog X.w) X.A (o vv uu) (EP X pins σ fun z H2=>∃k,z=.bl k/\Q k H2) X.xe s:=by
 rcases ax e with ⟨z,e1,e2⟩|⟨c,e1,e2⟩
 ·refine ho pins s σ O P H₀ H x y v u vv uu (.ok z) _ I hd hs rx ry ev eu e1 fun w H2 s2 rz=>sD rz e2 (q.on s2)
 ·subst e2;exact ho pins s σ O P H₀ H x y v u vv uu (.error c) _ I hd hs rx ry ev eu e1 q
theorem bJ {o:CmpOp} (ho:gL X E (compareOp o) g) (ha:PX X E a fa) (hb:PX X E b fb) (hm:behindInMarks o b=false:=by first|exact wF _|rfl):PB X E (.Compare a [o] [b] pos) (fun δ=>bd (e2 g fa fb δ) bR):=by
 intro pins s σ H Q I h;refine wpAny_isTrue_Compare1 (J6 ha hb I (KI h (t:=fun v u H1=>∃O P x y r,(∀a,a∈P++O->∃o,H a=some o)/\aE H H1/\RE O P H H1 x v/\RE O P H H1 y u/\bd (g x y) bR=some r/\CA E H1 Q r) fun O P x y r v u H1 h1 h2 h3 h4 h5 h6=>⟨O,P,x,y,r,h1,h2,h3,h4,h5,h6⟩)
  fun vv uu s2 v u H2 I2 rv ru ⟨O,P,x,y,r,h1,h2,h3,h4,h5,h6⟩=>bX (ho.test I2 h1 h2 h3 h4 rv ru h5 h6) fun d s3 ⟨z,H3,I3,r3,k,ez,q3⟩=>?_) hm
 subst ez;cases r3;exact wpAny_truthy_bool ⟨H3,I3,q3⟩
noncomputable def zM (g g':DV->DV->M DV) (fa fb fc:DS->M DV) (δ:DS):M DV:=bd (fa δ) fun x=>bd (fb δ) fun y=>bd (bd (g x y) bR) fun k=>if k=true then bd (fc δ) fun z=>g' y z else rt (.d (.bool false))
variable {g':DV->DV->M DV}
theorem t3 (h:tE E (zM g g' fa fb fc) σ H Q) {t:V->V->Hp->Prop}
  (k:∀O P δ x y r v u H1,RS O P H σ δ->RS O P H1 σ δ->aE H H1->RE O P H H1 x v->RE O P H H1 y u->(bd (bd (g x y) bR) fun k=>if k=true then bd (fc δ) fun z=>g' y z else rt (.d (.bool false)))=some r->Fn E O P H H1 Q r->t v u H1) :
  tE E fa σ H fun v H1=>tE E fb σ H1 fun u H2=>t v u H2:=by
 refine kG (g:=fun δ x=>bd (fb δ) fun y=>bd (bd (g x y) bR) fun k=>if k=true then bd (fc δ) fun z=>g' y z else rt (.d (.bool false))) h fun O P δ x r v H1 rs LK s1 rx e q=>?_;rcases ax e with ⟨y,e1,e2⟩|⟨c,e1,e2⟩
 ·exact ⟨O,P,δ,.ok y,LK,e1,fun u H2 s2 ry=>k O P δ x y r v u H2 rs (LK.same s2) (s1.trans s2) (rx.on s2) (ry.from s1) e2 (q.on s2)⟩
 ·subst e2;exact ⟨O,P,δ,.error c,LK,e1,q⟩
theorem uj {o o':CmpOp} (ho:gL X E (compareOp o) g) (NN:gL X E (compareOp o') g') (ha:PX X E a fa) (hb:PX X E b fb) (hc:PX X E c fc)
  (hm:lastMarks [o,o'] [b,c]=false:=by with_unfolding_all rfl):PX X E (.Compare a [o,o'] [b,c] pos) (zM g g' fa fb fc):=by
 intro pins s σ H Q I h;refine Compare_chain (bX (ha pins s σ H _ I (t3 h (t:=fun v u H1=>∃O P δ x y r,RS O P H σ δ/\RS O P H1 σ δ/\aE H H1/\RE O P H H1 x v/\RE O P H H1 y u/\(bd (bd (g x y) bR) fun k=>if k=true then bd (fc δ) fun z=>g' y z else rt (.d (.bool false)))=some r/\Fn E O P H H1 Q r)
  fun O P δ x y r v u H1 h1 h2 h3 h4 h5 h6 h7=>⟨O,P,δ,x,y,r,h1,h2,h3,h4,h5,h6,h7⟩)) fun vv s1 ⟨v,H1,I1,r1,q1⟩=>chain_link (bX (hb pins s1 σ H1 _ I1 q1) fun uu s2 ⟨u,H2,I2,r2,q2⟩=>?_)) hm
 obtain ⟨O,P,δ,x,y,r,h1,h2,h3,h4,h5,h6,h7⟩:=q2;rcases ax h6 with ⟨k,e1,e2⟩|⟨cx,e1,e2⟩
 ·refine bX (ho.test (Q:=fun k' H3=>k'=k/\aE H2 H3) I2 h1.dom h3 h4 h5 r1 r2 e1 fun H3 s3=>⟨rfl,s3⟩) fun d s3 ⟨z,H3,I3,r3,k',ez,ek,MC⟩=>?_;subst ez ek;cases r3;refine wpAny_truthy_bool ?_;cases k' with
  |false=>
   cases e2;exact ite_ff ⟨.bl false,H3,I3,rfl,h7 _ H3 MC (.bool false)⟩
  |true=>
   simp only [if_true] at e2;refine ite_tt (chain_last (bX (hc pins s3 σ H3 (fun w' H4=>∃zz,RE O P H H4 zz w'/\aE H3 H4/\g' y zz=some r) I3 ?_) fun ww s4 ⟨w',H4,I4,r4,zz,q4,OO,e4⟩=>?_))
   ·rcases ax e2 with ⟨zz,e3,e4⟩|⟨cc,e3,e4⟩
    ·exact ⟨O,P,δ,.ok zz,h2.same MC,e3,fun w' H4 s4 rz=>⟨zz,rz.from (h3.trans MC),s4,e4⟩⟩
    ·subst e4;exact ⟨O,P,δ,.error cc,h2.same MC,e3,h7.on MC⟩
   ·exact NN pins s4 σ O P H H4 y zz u w' uu ww r Q I4 h1.dom (h3.trans (MC.trans OO)) (h5.on (MC.trans OO)) q4 r2 r4 e4 (h7.on (MC.trans OO))
 ·subst e2;exact bX (ho.test (Q:=fun _ _=>False) I2 h1.dom h3 h4 h5 r1 r2 e1 h7) fun d s3 ⟨z,H3,I3,r3,k',ez,q3⟩=>q3.elim
theorem pN {o o':CmpOp} (ho:gL X E (compareOp o) g) (NN:gL X E (compareOp o') g') (ha:PX X E a fa) (hb:PX X E b fb) (hc:PX X E c fc)
  (hm:lastMarks [o,o'] [b,c]=false:=by with_unfolding_all rfl):PB X E (.Compare a [o,o'] [b,c] pos) (fun δ=>bd (zM g g' fa fb fc δ) bR):=by
 intro pins s σ H Q I h;have h':tE E (zM g g' fa fb fc) σ H (fun z H'=>∃k,z=.bl k/\Q k H'):=sJ (g:=fun _=>bR) h fun O P δ x r v H1 rs LK s1 rx e' q'=>sD rx e' q';refine isTrue_chain (bX (ha pins s σ H _ I (t3 h' (t:=fun v u H1=>∃O P δ x y r,RS O P H σ δ/\RS O P H1 σ δ/\aE H H1/\RE O P H H1 x v/\RE O P H H1 y u/\(bd (bd (g x y) bR) fun k=>if k=true then bd (fc δ) fun z=>g' y z else rt (.d (.bool false)))=some r/\Fn E O P H H1 (fun z H'=>∃k,z=.bl k/\Q k H') r)
  fun O P δ x y r v u H1 h1 h2 h3 h4 h5 h6 h7=>⟨O,P,δ,x,y,r,h1,h2,h3,h4,h5,h6,h7⟩)) fun vv s1 ⟨v,H1,I1,r1,q1⟩=>test_link (bX (hb pins s1 σ H1 _ I1 q1) fun uu s2 ⟨u,H2,I2,r2,q2⟩=>?_)) hm
 obtain ⟨O,P,δ,x,y,r,h1,h2,h3,h4,h5,h6,h7⟩:=q2;rcases ax h6 with ⟨k,e1,e2⟩|⟨cx,e1,e2⟩
 ·refine bX (ho.test (Q:=fun k' H3=>k'=k/\aE H2 H3) I2 h1.dom h3 h4 h5 r1 r2 e1 fun H3 s3=>⟨rfl,s3⟩) fun d s3 ⟨z,H3,I3,r3,k',ez,ek,MC⟩=>?_;subst ez ek;cases r3;refine wpAny_truthy_bool ?_;cases k' with
  |false=>
   cases e2;obtain ⟨k2,ek2,q7⟩:=h7 _ H3 MC (Rp.bool false);cases ek2;exact ite_ff ⟨H3,I3,q7⟩
  |true=>
   simp only [if_true] at e2;refine ite_tt (test_last (bX (hc pins s3 σ H3 (fun w' H4=>∃zz,RE O P H H4 zz w'/\aE H3 H4/\g' y zz=some r) I3 ?_) fun ww s4 ⟨w',H4,I4,r4,zz,q4,OO,e4⟩=>?_))
   ·rcases ax e2 with ⟨zz,e3,e4⟩|⟨cc,e3,e4⟩
    ·exact ⟨O,P,δ,.ok zz,h2.same MC,e3,fun w' H4 s4 rz=>⟨zz,rz.from (h3.trans MC),s4,e4⟩⟩
    ·subst e4;exact ⟨O,P,δ,.error cc,h2.same MC,e3,h7.on MC⟩
   ·refine bX (NN pins s4 σ O P H H4 y zz u w' uu ww r _ I4 h1.dom (h3.trans (MC.trans OO)) (h5.on (MC.trans OO)) q4 r2 r4 e4 (h7.on (MC.trans OO))) fun d' s5 ⟨z2,H5,I5,r5,k2,ek2,q5⟩=>?_;subst ek2;cases r5;exact wpAny_truthy_bool ⟨H5,I5,q5⟩
 ·subst e2;exact bX (ho.test (Q:=fun _ _=>False) I2 h1.dom h3 h4 h5 r1 r2 e1 h7) fun d s3 ⟨z,H3,I3,r3,k',ez,q3⟩=>q3.elim
def zf (X:Cx) (E:XK) (e:Expr) (f:DS->M Bool):Prop:=PW X e (zX E f)
theorem zf.pb (h:zf X E e ga):PB X E e ga:=PW.pt h
noncomputable def kh (ga gb:DS->M Bool) (δ:DS):M Bool:=bd (ga δ) fun k=>if k=true then gb δ else rt false
noncomputable def yw (ga gb:DS->M Bool) (δ:DS):M Bool:=bd (ga δ) fun k=>if k=true then rt true else gb δ
noncomputable def gm (ga:DS->M Bool) (δ:DS):M Bool:=bd (ga δ) fun k=>rt (!k)
theorem PW.mono {t t':TT} (h:PW X e t) (m:∀σ H Q,t' σ H Q->t σ H Q):PW X e t':=fun wh pins s σ H Q I q=>h wh pins s σ H Q I (m σ H Q q)
variable {cy:List Expr}
theorem yf (h:PB X E a ga):zf X E (.BoolOp .And [a] pos) ga:=DB h
theorem wO (h:PB X E a ga):zf X E (.BoolOp .Or [a] pos) ga:=Gs h
theorem Br (ha:PB X E a ga) (hb:zf X E (.BoolOp .And (b::cy) pos) gb):zf X E (.BoolOp .And (a::b::cy) pos) (kh ga gb):=
 PW.mono (GU ha hb) fun σ H Q q=>wY (g:=fun δ k=>if k=true then gb δ else rt false) q fun O P δ k r H1 rs LK s1 e q=>by
  cases k with
  |true=>exact ⟨O,P,δ,r,LK,e,q⟩
  |false=>cases e; exact q H1 (aE.refl H1)
theorem rG (ha:PB X E a ga) (hb:zf X E (.BoolOp .Or (b::cy) pos) gb):zf X E (.BoolOp .Or (a::b::cy) pos) (yw ga gb):=
 PW.mono (IE ha hb) fun σ H Q q=>wY (g:=fun δ k=>if k=true then rt true else gb δ) q fun O P δ k r H1 rs LK s1 e q=>by
  cases k with
  |false=>exact ⟨O,P,δ,r,LK,e,q⟩
  |true=>cases e; exact q H1 (aE.refl H1)
theorem gv (ha:PB X E a ga):PB X E (.UnaryOp .Not a pos) (gm ga):=
 PT.mono (FX ha) fun σ H Q q=>wY (g:=fun δ k=>rt (!k)) q fun O P δ k r H1 rs LK s1 e q=>by
  cases e; exact q H1 (aE.refl H1)
noncomputable def m5 (fa fb:DS->M DV) (δ:DS):M DV:=bd (bd (fa δ) bR) fun k=>if k=true then fb δ else rt (.d (.bool false))
noncomputable def Kd (fa fb:DS->M DV) (δ:DS):M DV:=bd (bd (fa δ) bR) fun k=>if k=true then rt (.d (.bool true)) else fb δ
noncomputable def Cr (fa:DS->M DV) (δ:DS):M DV:=bd (bd (fa δ) bR) fun k=>rt (.d (.bool (!k)))
theorem t1 {g:DS->Bool->M DV} (h:tE E (fun δ=>bd (bd (fa δ) bR) (g δ)) σ H Q) {t:VK}
  (k:∀O P δ k r H1,RS O P H1 σ δ->aE H H1->g δ k=some r->Fn E O P H H1 Q r->t (.bl k) H1):tE E fa σ H t:=by
 obtain ⟨O,P,δ,r,rs,e,q⟩:=h;rcases ax e with ⟨z,e1,e2⟩|⟨c,e1,e2⟩
 ·rcases ax e1 with ⟨x,e3,e4⟩|⟨c,e3,e4⟩
  ·refine ⟨O,P,δ,.ok x,rs,e3,fun v H1 s1 rx=>?_⟩;obtain ⟨kk,rfl,ek⟩:=m7 e4;cases ek;cases rx;exact k O P δ _ r H1 (rs.same s1) s1 e2 (q.on s1)
  ·cases e4
 ·subst e2;rcases ax e1 with ⟨x,e3,e4⟩|⟨c',e3,e4⟩
  ·obtain ⟨kk,_,ek⟩:=m7 e4;cases ek
  ·cases e4;exact ⟨O,P,δ,.error c,rs,e3,q⟩
theorem qe {o:BoolOp} (h:PX X E a fa):PX X E (.BoolOp o [a] pos) fa:=HC h
theorem C0 (s1:aE H H1) (q:Fn E O P H H1 Q r):Fn E O P H1 H1 Q r:=by
 cases r with
 |ok x=>exact fun v H' s' rx=>q v H' s' (rx.from s1)
 |error c=>exact q
theorem mJ (ha:PX X E a fa) (hb:PX X E (.BoolOp .And (b::cy) pos) fb):PX X E (.BoolOp .And (a::b::cy) pos) (m5 fa fb):=
 PE.mono (Ge ha hb) fun σ H Q q=>t1 (g:=fun δ k=>if k=true then fb δ else rt (.d (.bool false))) q fun O P δ k r H1 LK s1 e q=>by
  refine ⟨k,rfl,?_⟩;cases k with
  |true=>exact wG ⟨O,P,δ,r,LK,e,C0 s1 q⟩
  |false=>cases e; exact vL (q _ H1 (aE.refl H1) (.bool false))
theorem G1 (ha:PX X E a fa):PX X E (.UnaryOp .Not a pos) (Cr fa):=
 PE.mono (Gp ha) fun σ H Q q=>t1 (g:=fun δ k=>rt (.d (.bool (!k)))) q fun O P δ k r H1 LK s1 e q=>by
  cases e;exact ⟨k,rfl,q _ H1 (aE.refl H1) (.bool (!k))⟩
end
section
variable {X:Cx} {E:XK} {a b c e o:Expr} {es:List Expr} {pos p:Pos} {fa fb fc f:DS->M DV} {fr:DS->M (List DV)}
theorem lu.from {O P:List Addr} {H H1 H2:Hp} {xs:List DV} {vs:List V} (r:lu O P H1 H2 xs vs) (h:aE H H1):lu O P H H2 xs vs:=Paired.mapP r fun _ _ q=>RE.from q h
noncomputable def ai (_:DS):M (List DV):=rt []
noncomputable def aa (fa:DS->M DV) (fr:DS->M (List DV)) (δ:DS):M (List DV):=bd (fa δ) fun x=>bd (fr δ) fun xs=>rt (x::xs)
theorem ah:t6 X E [] ai:=PA.mono jy fun σ H Q q=>by
 obtain ⟨O,P,δ,r,rs,e,q⟩:=q;cases e;exact q [] H (aE.refl H) .nil
theorem ae (ha:PX X E e fa) (hr:t6 X E es fr) (hs:starEach (e::es) X.env=(false,eval e X.env)::starEach es X.env:=by rfl):t6 X E (e::es) (aa fa fr):=PA.mono (iO ha hr hs) fun σ H Q q=>by
 obtain ⟨O,P,δ,r,rs,e,q⟩:=q;rcases ax e with ⟨x,e1,e2⟩|⟨c,e1,e2⟩
 ·refine ⟨O,P,δ,.ok x,rs,e1,fun v H1 s1 rx=>?_⟩;rcases ax e2 with ⟨xs,e3,e4⟩|⟨c,e3,e4⟩
  ·cases e4;exact ⟨O,P,δ,.ok xs,rs.same s1,e3,fun vs H2 s2 rxs=>q _ H2 (s1.trans s2) (.cons (rx.on s2) (rxs.from s1))⟩
  ·subst e4;exact ⟨O,P,δ,.error c,rs.same s1,e3,fun dx H' s'=>q dx H' (s1.trans s')⟩
 ·subst e2;exact ⟨O,P,δ,.error c,rs,e1,q⟩
noncomputable def dX:List DV->Option (List D)
 |[]=>some []
 |x::r=>match uh x,dX r with
  |some d,some ds=>some (d::ds)
  |_,_=>none
@[simp] theorem mD:dX []=some []:=rfl
theorem kW (x:DV) (r:List DV):dX (x::r)=match uh x,dX r with|some d,some ds=>some (d::ds)|_,_=>none:=rfl
@[simp] theorem sM (x:D) (r:List DV):dX (.d x::r)=(dX r).map (x::·):=by
 rw [kW,yA];cases dX r <;> rfl
@[simp] theorem mF (xs:List D) (r:List DV):dX (.new xs::r)=(dX r).map (.list xs::·):=by
 rw [kW,oA];cases dX r <;> rfl
theorem lu.data {O P:List Addr} {H H':Hp} (dom:∀a,a∈P++O->∃o,H a=some o):∀{xs:List DV} {vs:List V} {ds:List D},lu O P H H' xs vs->dX xs=some ds->RpL (P++O) H' ds vs
 |_,_,_,.nil,h=>by cases h; exact .nil
 |_,_,_,.cons r t,h=>by
  rw [kW] at h;split at h
  ·rename_i d ds h1 h2;cases h;exact .cons (r.data dom h1) (lu.data dom t h2)
  ·cases h
noncomputable def bj (fr:DS->M (List DV)) (δ:DS):M DV:=bd (fr δ) fun xs=>bd (op (dX xs)) fun ds=>if ds.length<=1000000 then rt (.d (.tuple ds)) else none
noncomputable def cw (fr:DS->M (List DV)) (δ:DS):M DV:=bd (fr δ) fun xs=>bd (op (dX xs)) fun ds=>if ds.length<=1000000 then rt (.new ds) else none
theorem lN {g:DS->List DV->M DV} {σ:St} {t:List V->Hp->Prop} (h:tE E (fun δ=>bd (fr δ) (g δ)) σ H Q)
  (k:∀O P δ xs r vs H1,RS O P H σ δ->RS O P H1 σ δ->aE H H1->lu O P H H1 xs vs->g δ xs=some r->Fn E O P H H1 Q r->t vs H1):Kj E fr σ H t:=by
 obtain ⟨O,P,δ,r,rs,e,q⟩:=h;rcases ax e with ⟨x,e1,e2⟩|⟨c,e1,e2⟩
 ·exact ⟨O,P,δ,.ok x,rs,e1,fun v H1 s1 re=>k O P δ x r v H1 rs (rs.same s1) s1 re e2 (q.on s1)⟩
 ·subst e2;exact ⟨O,P,δ,.error c,rs,e1,q⟩
theorem rQ {xs:List DV} {h:List D->M DV} (e:bd (op (dX xs)) h=some r):∃ds,dX xs=some ds/\h ds=some r:=by
 cases hd:dX xs with
 |none=>rw [hd] at e; cases e
 |some ds=>rw [hd] at e; exact ⟨ds,rfl,e⟩
theorem bY {k:Nat} (h:t6 X E es fr):PX X E (.Tuple es k pos) (bj fr):=PE.mono (v9 h) fun σ H Q q=>lN (g:=fun _ xs=>bd (op (dX xs)) fun ds=>if ds.length<=1000000 then rt (.d (.tuple ds)) else none) q fun O P δ xs r vs H1 rs LK s1 rx e q=>by
 obtain ⟨ds,hd,e⟩:=rQ e;split at e
 ·rename_i hz;cases e;have l:=lu.data rs.dom rx hd;exact ⟨line_big (by rw [<-l.length]; exact hz),fun p hp=>q _ _ (bb hp) (Am rs.dom s1 hp l)⟩
 ·cases e
theorem cQ (h:t6 X E es fr):PX X E (.List es pos) (cw fr):=PE.mono (Cj h) fun σ H Q q=>lN (g:=fun _ xs=>bd (op (dX xs)) fun ds=>if ds.length<=1000000 then rt (.new ds) else none) q fun O P δ xs r vs H1 rs LK s1 rx e q=>by
 obtain ⟨ds,hd,e⟩:=rQ e;split at e
 ·rename_i hz;cases e;have l:=lu.data rs.dom rx hd;exact ⟨line_big (by rw [<-l.length]; exact hz),fun p hp=>q _ _ (bb hp) (RE.made s1 hp l)⟩
 ·cases e
noncomputable def bz (x y:DV):M DV:=match x,y with
 |.d (.tuple xs),.d (.int i)=>bd (op (atI xs i)) fun z=>rt (.d z)
 |.d (.list xs),.d (.int i)=>bd (op (atI xs i)) fun z=>rt (.d z)
 |.own xs,.d (.int i)=>bd (op (atI xs i)) fun z=>rt (.d z)
 |.new xs,.d (.int i)=>bd (op (atI xs i)) fun z=>rt (.d z)
 |_,_=>none
theorem RpL.atI {Z:List Addr} {H:Hp} {ds:List D} {vs:List V} {i:Int} {d:D} (l:RpL Z H ds vs) (h:L2.atI ds i=some d):∃v,L2.atI vs i=some v/\Rp Z H d v:=by
 unfold L2.atI at h ⊢;rw [<-l.length];cases e:Cy ds.length i with
 |none=>rw [e] at h; cases h
 |some j=>
  rw [e] at h;obtain ⟨v,e1,r⟩:=l.get (i:=j) h;exact ⟨v,e1,r⟩
theorem xW (g:α->β) (xs:List α) (i:Int):atI (xs.map g) i=(atI xs i).map g:=by
 unfold atI;rw [List.length_map];cases Cy xs.length i with
 |none=>rfl
 |some j=>simp
theorem bu {o:Option α} {g:α->M β} {r:Except Value β} (h:bd (op o) g=some r):∃x,o=some x/\g x=some r:=by
 cases o with
 |none=>cases h
 |some x=>exact ⟨x,rfl,h⟩
theorem aY (ha:PX X E a fa) (hb:PX X E b fb) (hs:jV b:=by intro _ _; rfl):PX X E (.Subscript a b pos) (e2 bz fa fb):=PE.mono (Bg wR ha hb hs) fun σ H Q q=>t2 q fun O P x y r v u H1 dom s1 rx ry e q=>by
 unfold bz at e;split at e
 ·obtain ⟨z,e1,e2⟩:=bu e;cases e2;cases ry;have rx':Rp (P++O) H1 _ v:=rx;cases rx' with
  |tup hz ha l=>
   obtain ⟨w,e3,Of⟩:=l.atI e1;exact .inr (.inl ⟨_,_,_,w,rfl,rfl,j8.of ha,e3,q w H1 (aE.refl H1) Of⟩)
 ·obtain ⟨z,e1,e2⟩:=bu e;cases e2;cases ry;have rx':Rp (P++O) H1 _ v:=rx;cases rx' with
  |lst hz ha l=>
   obtain ⟨w,e3,Of⟩:=l.atI e1;exact .inl ⟨_,_,_,w,rfl,rfl,eN.of ha,e3,q w H1 (aE.refl H1) Of⟩
 ·obtain ⟨z,e1,e2⟩:=bu e;cases e2;cases ry;obtain ⟨a,vs,rfl,hP,ha,l⟩:=rx;obtain ⟨w,e3,Of⟩:=l.atI e1;exact .inl ⟨_,_,_,w,rfl,rfl,eN.of ha,e3,q w H1 (aE.refl H1) Of⟩
 ·obtain ⟨z,e1,e2⟩:=bu e;cases e2;cases ry;obtain ⟨a,vs,rfl,hn,ha,l⟩:=rx;obtain ⟨w,e3,Of⟩:=l.atI e1;exact .inl ⟨_,_,_,w,rfl,rfl,eN.of ha,e3,q w H1 (aE.refl H1) (Of.kp (.sub fun b hb=>K3 _ hb))⟩
 ·cases e
open Classical in
noncomputable def BC (K:Li) (x y:DV):M DV:=match x,y with
 |.scr K' ns,.d (.int i)=>if K'=K then bd (op (atI ns i)) fun n=>rt (.d (.int n)) else none
 |_,_=>none
theorem RE.scrSq {K:Li} {ns:List Int} (r:RE O P H₀ H (.scr K ns) v):∃a,v=.ref a/\eN K H a (ns.map V.int):=by
 obtain ⟨a,ev,hz⟩:=r;exact ⟨a,ev,hz.imp (fun z=>z.2) fun z=>z⟩
theorem F8 (ha:PX X E a fa) (hb:PX X E b fb) (hs:jV b:=by intro _ _; rfl):PX X E (.Subscript a b pos) (e2 (BC X.K) fa fb):=PE.mono (Bg wR ha hb hs) fun σ H Q q=>t2 q fun O P x y r v u H1 dom s1 rx ry e q=>by
 unfold BC at e;split at e
 ·split at e
  ·rename_i hK;subst hK;obtain ⟨z,e1,e2⟩:=bu e;cases e2;cases ry;obtain ⟨a,rfl,ha⟩:=rx.scrSq;exact .inl ⟨_,_,_,.int z,rfl,rfl,ha,by rw [xW,e1]; rfl,q _ H1 (aE.refl H1) (.int z)⟩
  ·cases e
 ·cases e
noncomputable def qr (xs:List D) (lo hi:Option Int):List D:=(xs.drop (HT.sIx xs.length 0 lo)).take (HT.sIx xs.length xs.length hi-HT.sIx xs.length 0 lo)
theorem RpL.cut {ds:List D} {vs:List V} (l:RpL Z H ds vs) (lo hi:Option Int):RpL Z H (qr ds lo hi) (yW vs lo hi):=by
 unfold qr yW;rw [l.length];exact (l.drop _).take _
noncomputable def yF (x:DV) (lo hi:Option Int):M DV:=bd (op (ma x)) fun xs=>rt (.new (qr xs lo hi))
noncomputable def FF:DV->M Int
 |.d (.int i)=>rt i
 |_=>none
@[simp] theorem Ia (i:Int):FF (.d (.int i))=rt i:=rfl
theorem qK {r:Except Value Int} (h:FF x=some r):∃i,x=.d (.int i)/\r=.ok i:=by
 unfold FF at h;split at h
 ·rename_i i;cases h; exact ⟨i,rfl,rfl⟩
 ·cases h
noncomputable def ur (fa fl:DS->M DV) (δ:DS):M DV:=bd (fa δ) fun x=>bd (fl δ) fun l=>bd (FF l) fun i=>yF x (some i) none
noncomputable def Fk (fa fh:DS->M DV) (δ:DS):M DV:=bd (fa δ) fun x=>bd (fh δ) fun h=>bd (FF h) fun j=>yF x none (some j)
theorem xA {lo hi:Option Int} {K:Li} (s12:aE H1 H2) (hs:aE H₀ H2) (rx:RE O P H₀ H1 x v) (e:yF x lo hi=some r) (q:Fn E O P H₀ H2 Q r):IQ K v lo hi H2 Q:=by
 obtain ⟨xs,e1,e2⟩:=bu e;cases e2;obtain ⟨a,vs,rfl,ha,l⟩:=(rx.on s12).list e1;exact ⟨a,vs,rfl,eN.of ha,fun p hp=>q _ _ (bb hp) (RE.made hs hp (l.cut lo hi))⟩
theorem xi {h:Int->M DV} (rx:RE O P H₀ H x v) (e:bd (FF x) h=some r):∃i,v=.int i/\h i=some r:=by
 rcases ax e with ⟨i,e1,e2⟩|⟨c,e1,e2⟩
 ·obtain ⟨j,rfl,ej⟩:=qK e1;cases ej;cases rx;exact ⟨_,rfl,e2⟩
 ·obtain ⟨j,_,ej⟩:=qK e1;cases ej
theorem xc {p2:Pos} (ha:PX X E a fa) (hb:PX X E b fb):PX X E (.Subscript a (.Slice (some b) none none p2) pos) (ur fa fb):=PE.mono (uc xO ha (yq hb) xu) fun σ H Q q=>
 kG (g:=fun δ x=>bd (fb δ) fun l=>bd (FF l) fun i=>yF x (some i) none) q fun O P δ x r v H1 rs LK s1 rx e q=>by
  rcases ax e with ⟨l,e1,e2⟩|⟨c,e1,e2⟩
  ·refine ⟨O,P,δ,.ok l,LK,e1,fun u H2 s2 rl=>?_⟩;obtain ⟨i,rfl,e3⟩:=xi rl e2;exact ⟨i,rfl,xA s2 (s1.trans s2) rx e3 (q.on s2)⟩
  ·subst e2;exact ⟨O,P,δ,.error c,LK,e1,q⟩
theorem Ea {p2:Pos} (ha:PX X E a fa) (hb:PX X E b fb):PX X E (.Subscript a (.Slice none (some b) none p2) pos) (Fk fa fb):=PE.mono (uc xO ha xu (yq hb)) fun σ H Q q=>
 kG (g:=fun δ x=>bd (fb δ) fun l=>bd (FF l) fun i=>yF x none (some i)) q fun O P δ x r v H1 rs LK s1 rx e q=>by
  rcases ax e with ⟨l,e1,e2⟩|⟨c,e1,e2⟩
  ·refine ⟨O,P,δ,.ok l,LK,e1,fun u H2 s2 rl=>?_⟩;obtain ⟨i,rfl,e3⟩:=xi rl e2;exact ⟨i,rfl,xA s2 (s1.trans s2) rx e3 (q.on s2)⟩
  ·subst e2;exact ⟨O,P,δ,.error c,LK,e1,q⟩
noncomputable def BQ (C:Addr) (n:Str) (x:DV):M DV:=match x with
 |.ob C' fs=>if C'=C then bd (op (fs.lookup n)) fun d=>rt (.d d) else none
 |_=>none
noncomputable def gY (C:Addr) (n:Str) (fa:DS->M DV) (δ:DS):M DV:=bd (fa δ) (BQ C n)
theorem FQ.look {Z:List Addr} {H:Hp} {n:Str} {d:D}:∀{fs:List (Str×D)} {gs:List (Str×V)},FQ Z H fs gs->fs.lookup n=some d->∃v,gs.lookup n=some v/\Rp Z H d v
 |_,_,.nil,h=>by simp at h
 |(k,x)::fs,(k',y)::gs,.cons ⟨ek,r⟩ t,h=>by
  have ek':k=k':=ek;subst ek';by_cases hn:n=k
  ·subst hn;simp only [List.lookup_cons,beq_self_eq_true] at h ⊢;cases h;exact ⟨_,rfl,r⟩
  ·have hb:(n==k)=false:=by simpa using hn
   simp only [List.lookup_cons,hb] at h ⊢;exact FQ.look t h
theorem kK {C:Addr} {n:Str} (ha:PX X E a fa) (hc:Cls X.K C) (hn:d0 X.K C n) (hb:attributeBase a n X.env (eval a X.env)=eval a X.env:=by rfl):PX X E (.Attribute a n pos) (gY C n fa):=PE.mono (wx ha hb) fun σ H Q q=>
 kG (g:=fun _=>BQ C n) q fun O P δ x r v H1 rs LK s1 rx e q=>by
  unfold BQ at e;split at e
  ·split at e
   ·rename_i hC;subst hC;obtain ⟨d,e1,e2⟩:=bu e;cases e2;obtain ⟨a,dx,gs,rfl,hz,ha,hf⟩:=rx;obtain ⟨w,e3,Of⟩:=FQ.look hf e1;exact ⟨a,_,dx,gs,w,rfl,ha,hc,hn,e3,q w H1 (aE.refl H1) Of⟩
   ·cases e
  ·cases e
def dI (X:Cx) (E:XK) (f:Value) (g:List DV->M DV):Prop:=
 ∀(pins:List (Addr×Obj)) (s:Shared) (σ:St) (O P:List Addr) (H₀ H:Hp) (xs:List DV) (vs:List V) (us:List Value) (r:Except Value DV) (Q:VK),Inv X pins σ H s->(∀a,a∈P++O->∃o,H₀ a=some o)->aE H₀ H ->
  lu O P H₀ H xs vs->aS vs us->g xs=some r->Fn E O P H₀ H Q r->wpAny (model X.prog X.w) X.A (call f us) (EP X pins σ Q) X.xe s
def Cc (E:XK) (g:List DV->M DV) (vs:List V) (H:Hp) (Q:VK):Prop:=∃O P H₀ xs r,(∀a,a∈P++O->∃o,H₀ a=some o)/\aE H₀ H/\lu O P H₀ H xs vs/\g xs=some r/\Fn E O P H₀ H Q r
theorem dI.rule {f:Value} {g:List DV->M DV} (h:dI X E f g):lA X f (Cc E g):=fun pins s σ H vs us Q I rv ⟨O,P,H₀,xs,r,h1,h2,h3,h4,h5⟩=>h pins s σ O P H₀ H xs vs us r Q I h1 h2 h3 rv h4 h5
theorem dI.of {f:Value} {g:List DV->M DV} {R:List V->Hp->VK->Prop} (hc:lA X f R)
  (h:∀(O P:List Addr) (H₀ H:Hp) (xs:List DV) (vs:List V) (r:Except Value DV) (Q:VK),(∀a,a∈P++O->∃o,H₀ a=some o)->aE H₀ H->lu O P H₀ H xs vs->g xs=some r->Fn E O P H₀ H Q r->R vs H Q):dI X E f g:=
 fun pins s σ O P H₀ H xs vs us r Q I h1 h2 h3 rv h4 h5=>hc pins s σ H vs us Q I rv (h O P H₀ H xs vs r Q h1 h2 h3 h4 h5)
noncomputable def aR (g:List DV->M DV) (fr:DS->M (List DV)) (δ:DS):M DV:=bd (fr δ) g
theorem Cf {g:List DV->M DV} {σ:St} (q:tE E (aR g fr) σ H Q):Kj E fr σ H fun vs H1=>Cc E g vs H1 Q:=
 lN (g:=fun _=>g) q fun O P δ xs r vs H1 rs LK s1 rx e q=>⟨O,P,H,xs,r,rs.dom,s1,rx,e,q⟩
theorem aX {x:Str} {id:String} {g:List DV->M DV} (hc:dI X E (.builtin id) g) (hg:Gl X x) (hm:X.mg x=none) (hv:bootBuiltins x=some (.builtin id)) (ha:t6 X E (e::es) fr) (hn:x ≠ "__name__" :=by decide) (Mv:(x==("__debug__" : Str))=false:=by decide)
  (he:starEach (e::es) X.env=(false,eval e X.env)::starEach es X.env:=by rfl) (Me:(backTo pos (starEach es X.env)).any (·.1)=false:=by rfl):PX X E (.Call (.Name x p) (e::es) [] pos) (aR g fr):=
 PE.mono (Be hc.rule hg hm hv ha hn Mv he Me) fun σ H Q q=>Cf q
theorem gh {x:Str} {T:String} {g:List DV->M DV} (hc:dI X E (.type T) g) (hg:Gl X x) (hm:X.mg x=none) (hv:bootBuiltins x=some (.type T)) (ha:t6 X E (e::es) fr) (hn:x ≠ "__name__" :=by decide) (Mv:(x==("__debug__" : Str))=false:=by decide)
  (he:starEach (e::es) X.env=(false,eval e X.env)::starEach es X.env:=by rfl) (Me:(backTo pos (starEach es X.env)).any (·.1)=false:=by rfl):PX X E (.Call (.Name x p) (e::es) [] pos) (aR g fr):=
 PE.mono (yR hc.rule hg hm hv ha hn Mv he Me) fun σ H Q q=>Cf q
end
def Sub (δ δ':DS):Prop:=δ.length=δ'.length/\∀(i:Nat) (x:DV),δ[i]?=some (some x)->δ'[i]?=some (some x)
variable {δ:DS} {i:Nat}
theorem Dv {y:Option DV} (h:δ[i]?=some none\/δ[i]?=none):Sub δ (δ.set i y):=⟨0x4,fun j x e=>by
 by_cases hj:i=j
 ·subst hj;rcases h with h|h <;> (rw [h] at e; cases e)
 ·rw [List.getElem?_set_ne hj]; exact e⟩
section
variable {O P:List Addr} {H:Hp} {σ:St} {δ δ':DS}
theorem RS.forget (r:RS O P H σ δ') (h:Sub δ δ'):RS O P H σ δ:=
 ⟨r.len.trans h.1.symm,r.dom,r.apart,fun i x e=>r.at' i x (h.2 i x e),fun i j x y v w a e1 e2=>r.one i j x y v w a (h.2 i _ e1) (h.2 j _ e2)⟩
theorem RS.set (r:RS O P H σ δ) {i:Nat} {x:DV} {v:V} (rx:RE O P H H x v) (h1:∀xs,x≠.new xs) (h2:Em x=false):RS O P H (σ.set i (some v)) (δ.set i (some x)):=by
 refine ⟨by simp [r.len],r.dom,r.apart,fun j y e=>?_,fun j k y z v1 v2 c e1 e2 e3 e4 o1 o2=>?_⟩
 ·by_cases hj:i=j
  ·subst hj;by_cases hi:i<δ.length
   ·rw [List.getElem?_set_self hi] at e;cases e;exact ⟨v,by rw [List.getElem?_set_self (by rw [r.len]; exact hi)],h1,rx⟩
   ·rw [List.getElem?_eq_none (by simpa using hi)] at e; cases e
  ·rw [List.getElem?_set_ne hj] at e;obtain ⟨w,e1,e2,e3⟩:=r.at' j y e;exact ⟨w,by rw [List.getElem?_set_ne hj]; exact e1,e2,e3⟩
 ·have nj:∀(j:Nat) (y:DV),(δ.set i (some x))[j]?=some (some y)->Em y=true->i≠j/\δ[j]?=some (some y):=fun j y e ho=>by
   by_cases hj:i=j
   ·subst hj;by_cases hi:i<δ.length
    ·rw [List.getElem?_set_self hi] at e;cases e;rw [h2] at ho; cases ho
    ·rw [List.getElem?_eq_none (by simpa using hi)] at e; cases e
   ·exact ⟨hj,by rw [List.getElem?_set_ne hj] at e; exact e⟩
  obtain ⟨n1,d1⟩:=nj j y e1 o1.q;obtain ⟨n2,d2⟩:=nj k z e2 o2.q;rw [List.getElem?_set_ne n1] at e3;rw [List.getElem?_set_ne n2] at e4;exact r.one j k y z v1 v2 c d1 d2 e3 e4 o1 o2
theorem RS.ownG {H0:Hp} (r:RS O P H0 σ δ) (hs:aE H0 H) {u:HO} (hn:H0 a=none) (ha:H a=some u) (hx:∀xs,x≠.new xs) (rx:RE O (a::P) H H x v) (hx1:∀b,qk H x v b->b=a):RS O (a::P) H (σ.set i (some v)) (δ.set i (some x)):=by
 have fz:a∉P++O:=fun h=>by
  obtain ⟨o,e⟩:=r.dom a h;rw [hn] at e; cases e
 have k:Kp (P++O) H0 (a::P++O) H:=⟨fun b o _ e=>hs b o e,fun b hb=>by
  rcases Lj.mp hb with e|e
  ·exact .inr (e▸hn)
  ·exact .inl e⟩
 refine ⟨by simp [r.len],fun b hb=>?_,fun b hb hO=>?_,fun j y e=>?_,fun j m y z v1 v2 c e1 e2 e3 e4 o1 o2=>?_⟩
 ·rcases Lj.mp hb with e|e
  ·exact ⟨_,e▸ha⟩
  ·obtain ⟨o,q⟩:=r.dom b e;exact ⟨o,hs b o q⟩
 ·rcases Lj.mp hb with e|e
  ·exact fz (K7 _ (e▸hO))
  ·exact r.apart b e hO
 ·by_cases hj:i=j
  ·subst hj;by_cases hi:i<δ.length
   ·rw [List.getElem?_set_self hi] at e;cases e;exact ⟨v,by rw [List.getElem?_set_self (by rw [r.len]; exact hi)],hx,rx⟩
   ·rw [List.getElem?_eq_none (by simpa using hi)] at e; cases e
  ·rw [List.getElem?_set_ne hj] at e;obtain ⟨w,e1,e2,e3⟩:=r.at' j y e;refine ⟨w,by rw [List.getElem?_set_ne hj]; exact e1,e2,?_⟩;cases y with
   |d y=>exact Rp.kp k e3
   |ob C fs=>exact CD.kp k e3
   |fz kvs=>exact xK.kp k e3
   |ex q=>exact e3
   |tpo p xs q=>exact GZ.kp k (fun b u hp hb=>⟨K3 _ hp,hs b u hb⟩) e3
   |nwt p xs q=>exact (An.no e3).elim
   |own ys=>
    obtain ⟨b,us,eb,hP,hb,hl⟩:=e3;exact ⟨b,us,eb,K3 _ hP,hs b _ hb,hl.kp k⟩
   |new ys=>exact absurd rfl (e2 ys)
   |scr K ns=>
    obtain ⟨b,eb,⟨hz,hb⟩|hk⟩:=e3
    ·refine ⟨b,eb,.inl ⟨fun h=>?_,aE.rd hs hb⟩⟩;rcases Lj.mp h with z|z
     ·rcases hb with hb|⟨ob,hb⟩ <;> (rw [z,hn] at hb; cases hb)
     ·exact hz z
    ·exact ⟨b,eb,.inr hk⟩
 ·
  have old:∀(j:Nat) (y:DV) (w:V),δ[j]?=some (some y)->σ[j]?=some (some w)->qk H y w c->qk H0 y w c/\c∈P:=fun j y w e q o=>by
   obtain ⟨w',e1,_,r1⟩:=r.at' j _ e;rw [q] at e1;cases e1;have:=o.old (fun b o _ q=>hs b o q) r1;exact ⟨this,this.new r1⟩
  by_cases hj:i=j
  ·by_cases hm:i=m
   ·exact hj.symm.trans hm
   ·subst hj;by_cases hi:i<δ.length
    ·rw [List.getElem?_set_self hi] at e1;cases e1;rw [List.getElem?_set_self (by rw [r.len]; exact hi)] at e3;cases e3;rw [List.getElem?_set_ne hm] at e2 e4;have hc:=hx1 c o1;exact absurd (K8 _ (hc▸(old m z v2 e2 e4 o2).2)) fz
    ·rw [List.getElem?_eq_none (by simpa using hi)] at e1; cases e1
  ·by_cases hm:i=m
   ·subst hm;by_cases hi:i<δ.length
    ·rw [List.getElem?_set_self hi] at e2;cases e2;rw [List.getElem?_set_self (by rw [r.len]; exact hi)] at e4;cases e4;rw [List.getElem?_set_ne hj] at e1 e3;have hc:=hx1 c o2;exact absurd (K8 _ (hc▸(old j y v1 e1 e3 o1).2)) fz
    ·rw [List.getElem?_eq_none (by simpa using hi)] at e2; cases e2
   ·rw [List.getElem?_set_ne hj] at e1 e3;rw [List.getElem?_set_ne hm] at e2 e4;exact r.one j m y z v1 v2 c e1 e2 e3 e4 (old j y v1 e1 e3 o1).1 (old m z v2 e2 e4 o2).1
theorem RS.own {H0:Hp} (r:RS O P H0 σ δ) (hs:aE H0 H) {i:Nat} {xs:List D} {v:V} (rx:RE O P H0 H (.new xs) v):∃a,H0 a=none/\RS O (a::P) H (σ.set i (some v)) (δ.set i (some (.own xs))):=by
 obtain ⟨a,vs,rfl,hn,ha,l⟩:=rx;exact ⟨a,hn,r.ownG hs hn ha (fun _=>nofun) ⟨a,vs,rfl,K5,ha,l⟩ fun b h=>by
  have h':V.ref a=.ref b:=h;cases h'; rfl⟩
theorem RS.ownT {H0:Hp} (r:RS O P H0 σ δ) (hs:aE H0 H) {p:List D} (rx:RE O P H0 H (.nwt p xs q) v):∃a,H0 a=none/\RS O (a::P) H (σ.set i (some v)) (δ.set i (some (.tpo p xs q))):=by
 obtain ⟨t,a,ps,vs,qs,rfl,hz,ht,hn,ha,l1,l2,l3⟩:=rx;refine ⟨a,hn,r.ownG hs hn ha (fun _=>nofun) ⟨t,a,ps,vs,qs,rfl,hz,ht,K5,ha,l1,l2,l3⟩ fun b h=>?_⟩;obtain ⟨t',us,e',NU,hu⟩:=h;cases e';rw [ht] at NU;cases NU;rw [l1.length,List.getElem?_append_right (K9 _),Nat.sub_self] at hu;cases hu;rfl
end
def EE (g:TG) (sf:D->DS->Option DS):Prop:=∀(O P:List Addr) (H:Hp) (σ:St) (δ δ':DS) (d:D) (v:V) (Q:St->Hp->Prop),RS O P H σ δ->Rp (P++O) H d v->sf d δ=some δ'->(∀σ',RS O P H σ' δ'->Q σ' H)->g v σ H Q
noncomputable def ar (i:Nat) (d:D) (δ:DS):Option DS:=some (δ.set i (some (.d d)))
theorem aF (i:Nat):EE (nH i) (ar i):=fun O P H σ δ δ' d v Q r rd e h=>by
 cases e;exact h _ (r.set (x:=.d d) rd (fun _=>nofun) rfl)
noncomputable def lS (ds:List D) (δ:DS):Option DS:=match ds with
 |[]=>some δ
 |_=>none
noncomputable def cJ (sf:D->DS->Option DS) (st:List D->DS->Option DS) (ds:List D) (δ:DS):Option DS:=match ds with
 |[]=>none
 |d::r=>match sf d δ with
  |some δ'=>st r δ'
  |none=>none
noncomputable def kP (n:Nat) (st:List D->DS->Option DS) (d:D) (δ:DS):Option DS:=match d with
 |.tuple ds=>if ds.length=n then st ds δ else none
 |_=>none
def DC (g:CH) (sf:List D->DS->Option DS):Prop:=∀(O P:List Addr) (H:Hp) (σ:St) (δ δ':DS) (ds:List D) (vs:List V) (Q:St->Hp->Prop),RS O P H σ δ->RpL (P++O) H ds vs->sf ds δ=some δ'->(∀σ',RS O P H σ' δ'->Q σ' H)->g vs σ H Q
theorem pD:DC Jr lS:=fun O P H σ δ δ' ds vs Q r rd e h=>by
 cases rd with
 |nil=>cases e; exact ⟨rfl,h σ r⟩
 |cons _ _=>cases e
theorem fG {g:TG} {sf:D->DS->Option DS} {gs:CH} {st:List D->DS->Option DS} (h1:EE g sf) (h2:DC gs st):DC (Fo g gs) (cJ sf st):=fun O P H σ δ δ' ds vs Q r rd e h=>by
 cases rd with
 |nil=>cases e
 |cons r1 rr=>
  unfold cJ at e;simp only at e;split at e
  ·rename_i δ1 e1;exact ⟨_,_,rfl,h1 O P H σ δ δ1 _ _ _ r r1 e1 fun σ1 LK=>h2 O P H σ1 δ1 δ' _ _ Q LK rr e h⟩
  ·cases e
variable {K:Li}
theorem qg {gs:CH} {st:List D->DS->Option DS} (h:DC gs st):EE (Ih K n gs) (kP n st):=fun O P H σ δ δ' d v Q r rd e hq=>by
 unfold kP at e;split at e
 ·split at e
  ·rename_i hn;cases rd with
   |tup hz ha l=>exact ⟨_,_,rfl,j8.of ha,by rw [<-l.length]; exact hn,h O P H σ δ δ' _ _ Q r l e hq⟩
  ·cases e
 ·cases e
def DP (n:Nat) (fm:List DV->M DV):Sp:=fun vs H Q _=>vs.length=n/\∃O xs x,(∀a,a∈O->∃o,H a=some o)/\lu O [] H H xs vs/\fm xs=some (.ok x)/\∀v H',aE H H'->RE O [] H H' x v->Q v H'
noncomputable def args:List DV->Option (List DV)
 |[]=>some []
 |x::r=>match FE x,args r with
  |some y,some ys=>some (y::ys)
  |_,_=>none
@[simp] theorem args_nil:args []=some []:=rfl
theorem gi (x:DV) (r:List DV):args (x::r)=match FE x,args r with|some y,some ys=>some (y::ys)|_,_=>none:=rfl
@[simp] theorem vY (x:D) (r:List DV):args (.d x::r)=(args r).map (.d x::·):=by
 rw [gi,Jq]; cases args r <;> rfl
@[simp] theorem oH (C:Addr) (fs:List (Str×D)) (r:List DV):args (.ob C fs::r)=(args r).map (.ob C fs::·):=by
 rw [gi,Hj]; cases args r <;> rfl
@[simp] theorem pS (xs:List D) (r:List DV):args (.new xs::r)=(args r).map (.d (.list xs)::·):=by
 rw [gi,C1]; cases args r <;> rfl
@[simp] theorem pL (K:Li) (ns:List Int) (r:List DV):args (.scr K ns::r)=(args r).map (.scr K ns::·):=by
 rw [gi,CL]; cases args r <;> rfl
theorem RE.hand {y:DV} (dom:∀a,a∈P++O->∃o,H₀ a=some o) (hs:aE H₀ H) (r:RE O P H₀ H x v) (h:FE x=some y):RE (P++O) [] H H y v:=by
 cases x with
 |d z=>cases h; exact r
 |ob C fs=>cases h; exact r
 |fz kvs=>cases h; exact r
 |ex q=>cases h; exact r
 |tpo p xs q=>cases h
 |nwt p xs q=>cases h; exact o8 dom r
 |own xs=>cases h
 |new xs=>cases h; exact l7 dom r
 |scr K ns=>cases h; exact r
theorem lu.hand {O P:List Addr} {H₀ H:Hp} (dom:∀a,a∈P++O->∃o,H₀ a=some o) (hs:aE H₀ H):∀{xs ys:List DV} {vs:List V},lu O P H₀ H xs vs->args xs=some ys->lu (P++O) [] H H ys vs
 |_,_,_,.nil,h=>by cases h; exact .nil
 |_,_,_,.cons r t,h=>by
  rw [gi] at h;split at h
  ·rename_i y ys h1 h2;cases h;exact .cons (r.hand dom hs h1) (lu.hand dom hs t h2)
  ·cases h
theorem RE.back (hs:aE H₀ H) (r:RE (P++O) [] H H' x v):RE O P H₀ H' x v:=by
 cases x with
 |d z=>exact r
 |ob C fs=>exact r
 |fz kvs=>exact r
 |ex q=>exact r
 |tpo p xs q=>
  obtain ⟨t,a,ps,vs,qs,e,hz,ht,hP,_⟩:=r;cases hP
 |nwt p xs q=>
  obtain ⟨t,a,ps,vs,qs,e,hz,ht,hn,ha,ll⟩:=r;exact ⟨t,a,ps,vs,qs,e,hz,ht,hs.free hn,ha,ll⟩
 |own xs=>
  obtain ⟨a,vs,e,hP,_⟩:=r;cases hP
 |new xs=>
  obtain ⟨a,vs,e,hn,ha,l⟩:=r;exact ⟨a,vs,e,hs.free hn,ha,l⟩
 |scr K ns=>exact r
noncomputable def FU {α:Type} (m:M α):M α:=match m with
 |some (.ok x)=>some (.ok x)
 |_=>none
@[simp] theorem wd (x:α):FU (some (.ok x):M α)=some (.ok x):=rfl
@[simp] theorem wM (x:α):FU (rt x)=rt x:=rfl
noncomputable def aw (n:Nat) (fm:List DV->M DV) (xs:List DV):M DV:=bd (op (args xs)) fun ys=>if ys.length=n then FU (fm ys) else none
section
variable {X:Cx} {E:XK} {a b c e o:Expr} {es:List Expr} {pos p:Pos} {fa fb fc f:DS->M DV} {fr:DS->M (List DV)}
theorem DU {k:Nat} {fn:Addr} {fd:FuncData} {ps:List Str} {x:Str} {fm:List DV->M DV} (F:FnOk X.prog X.w X.K X.mg X.base tK k fn fd ps (DP n fm)) (hr:Room k X.A) (hm:X.mg x=some (.ref fn)) (hk:PySem.W.keepIn X.K (.ref fn)=true) (hb:f6 X.K fd ps [])
  (ha:t6 X E (e::es) fr) (hg:Gl X x:=by rfl) (Mv:(x==("__debug__" : Str))=false:=by decide) (he:starEach (e::es) X.env=(false,eval e X.env)::starEach es X.env:=by rfl) (Me:(backTo pos (starEach es X.env)).any (·.1)=false:=by rfl) :
  PX X E (.Call (.Name x p) (e::es) [] pos) (aR (aw n fm) fr):=
 PE.mono (yz (E:=E0) F hr hg hm hk hb .nil (fun _ _ _ _ _ _ _ h=>h.elim) ha Mv he Me) fun σ H Q q=>lN (g:=fun _=>aw n fm) q fun O P δ xs r vs H1 rs LK s1 rx e q=>by
  obtain ⟨ys,h1,h2⟩:=bu e;split at h2
  ·rename_i hl;cases hf:fm ys with
   |none=>rw [hf] at h2; cases h2
   |some z=>
    rw [hf] at h2;cases z with
    |error c=>cases h2
    |ok x=>
     cases h2;have ry:=lu.hand rs.dom s1 rx h1;refine ⟨?_,P++O,ys,x,fun a ha=>?_,?_,hf,fun v H' s2 rv=>q v H' s2 (rv.back s1)⟩
     ·rw [List.append_nil,<-Paired.length ry]; exact hl
     ·obtain ⟨o,e'⟩:=rs.dom a ha;exact ⟨o,s1 a o e'⟩
     ·rw [List.append_nil]; exact ry
  ·cases h2
noncomputable def c6 (xs:List DV):M DV:=match xs with
 |[x]=>match nz x with
  |some (.list ys)=>rt (.d (.int ys.length))
  |some (.tuple ys)=>rt (.d (.int ys.length))
  |_=>none
 |_=>none
theorem RE.look {ys:List D} (r:RE O P H₀ H x v):(nz x=some (.list ys)->∃a vs,v=.ref a/\H a=some (.lst vs)/\RpL (P++O) H ys vs)/\(nz x=some (.tuple ys)->∃a vs,v=.ref a/\H a=some (.tup vs)/\RpL (P++O) H ys vs):=by
 refine ⟨fun h=>?_,fun h=>?_⟩
 ·refine r.list ?_;cases x with
  |d z=>cases h; rfl
  |ob C fs=>cases h
  |fz kvs=>cases h
  |ex q=>cases h
  |tpo p xs q=>cases h
  |nwt p xs q=>cases h
  |own xs=>cases h; rfl
  |new xs=>cases h; rfl
  |scr K ns=>cases h
 ·cases x with
  |d z=>
   cases h;have r':Rp (P++O) H _ v:=r;cases r' with
   |tup hz ha l=>exact ⟨_,_,rfl,ha,l⟩
  |ob C fs=>cases h
  |fz kvs=>cases h
  |ex q=>cases h
  |tpo p xs q=>cases h
  |nwt p xs q=>cases h
  |own xs=>cases h
  |new xs=>cases h
  |scr K ns=>cases h
theorem eU:dI X E (.builtin "len") c6:=dI.of mq fun O P H₀ H xs vs r Q hd hs rx e q=>by
 unfold c6 at e;split at e
 ·cases rx with
  |cons r1 rr=>
   cases rr;split at e
   ·rename_i h;cases e;obtain ⟨a,vs,rfl,ha,l⟩:=r1.look.1 h;exact ⟨a,vs,rfl,.inl (eN.of ha),q _ H (aE.refl H) (by rw [l.length]; exact .int _)⟩
   ·rename_i h;cases e;obtain ⟨a,vs,rfl,ha,l⟩:=r1.look.2 h;exact ⟨a,vs,rfl,.inr (j8.of ha),q _ H (aE.refl H) (by rw [l.length]; exact .int _)⟩
   ·cases e
 ·cases e
open Classical in
noncomputable def uJ (K:Li) (xs:List DV):M DV:=match xs with
 |[.scr K' ns]=>if K'=K then rt (.d (.int ns.length)) else none
 |_=>none
theorem DL:dI X E (.builtin "len") (uJ X.K):=dI.of mq fun O P H₀ H xs vs r Q hd hs rx e q=>by
 unfold uJ at e;split at e
 ·split at e
  ·rename_i hK;subst hK;cases e;cases rx with
   |cons r1 rr=>
    cases rr;obtain ⟨a,rfl,ha⟩:=r1.scrSq;refine ⟨a,_,rfl,.inl ha,?_⟩;rw [List.length_map];exact q _ H (aE.refl H) (.int _)
  ·cases e
 ·cases e
noncomputable def uy (xs:List DV):M DV:=match xs with
 |[x]=>match nz x with
  |some (.list ys)=>rt (.new ys)
  |some (.tuple ys)=>rt (.new ys)
  |_=>none
 |_=>none
theorem tG:dI X E (.type "list") uy:=dI.of ti fun O P H₀ H xs vs r Q hd hs rx e q=>by
 unfold uy at e;split at e
 ·cases rx with
  |cons r1 rr=>
   cases rr;split at e
   ·rename_i h;cases e;obtain ⟨a,vs,rfl,ha,l⟩:=r1.look.1 h;exact ⟨a,vs,rfl,.inl (eN.of ha),fun p hp=>q _ _ (bb hp) (RE.made hs hp l)⟩
   ·rename_i h;cases e;obtain ⟨a,vs,rfl,ha,l⟩:=r1.look.2 h;exact ⟨a,vs,rfl,.inr (j8.of ha),fun p hp=>q _ _ (bb hp) (RE.made hs hp l)⟩
   ·cases e
 ·cases e
noncomputable def AO (xs:List DV):M DV:=match xs with
 |[.d (.int i)]=>rt (.d (.int i))
 |[.d (.bool k)]=>rt (.d (.int (if k then 1 else 0)))
 |_=>none
theorem Gy:dI X E (.type "int") AO:=dI.of zu fun O P H₀ H xs vs r Q hd hs rx e q=>by
 unfold AO at e;split at e
 ·cases e;cases rx with
  |cons r1 rr=>
   cases rr;cases r1;exact .inl ⟨_,rfl,q _ H (aE.refl H) (.int _)⟩
 ·cases e;cases rx with
  |cons r1 rr=>
   cases rr;cases r1;exact .inr ⟨_,rfl,q _ H (aE.refl H) (.int _)⟩
 ·cases e
noncomputable def ze (xs:List DV):M DV:=match xs with
 |[.d (.int i),.d (.int j)]=>rt (.d (.int (if j<i then j else i)))
 |_=>none
theorem GO (hc:X.calm=true):dI X E (.builtin "min") ze:=dI.of (zF hc) fun O P H₀ H xs vs r Q hd hs rx e q=>by
 unfold ze at e;split at e
 ·cases e;cases rx with
  |cons r1 rr=>
   cases rr with
   |cons r2 rr=>
    cases rr;cases r1;cases r2;exact ⟨_,_,rfl,q _ H (aE.refl H) (.int _)⟩
 ·cases e
end
inductive Out where
 |nx (δ:DS)
 |rt (x:DV)
 |bk (δ:DS)
 |ct (δ:DS)
def Dc (E:XK) (O P:List Addr) (H:Hp) (T:Ends):Except Value Out->Prop
 |.ok (.nx δ)=>∀σ' H' P',Kp P H P' H'->RS O P' H' σ' δ->T.nx σ' H'
 |.ok (.bk δ)=>∀σ' H' P',Kp P H P' H'->RS O P' H' σ' δ->T.bk σ' H'
 |.ok (.ct δ)=>∀σ' H' P',Kp P H P' H'->RS O P' H' σ' δ->T.ct σ' H'
 |.ok (.rt x)=>∀v H1 H' P',Kp P H P' H1->aE H1 H'->(∀a,a∈P'++O->∃o,H1 a=some o)->(∀a,a∈P'->a∉O)->RE O P' H1 H' x v->T.rt v H'
 |.error c=>∀dx H' P',Kp P H P' H'->E c dx H'
theorem Dc.on {P1:List Addr} {T:Ends} {r:Except Value Out} (h:Dc E O P H T r) (k:Kp P H P1 H1):Dc E O P1 H1 T r:=by
 cases r with
 |error c=>exact fun dx H' P' k'=>h dx H' P' (k.trans k')
 |ok o=>
  cases o with
  |nx δ=>exact fun σ' H' P' k' rs=>h σ' H' P' (k.trans k') rs
  |bk δ=>exact fun σ' H' P' k' rs=>h σ' H' P' (k.trans k') rs
  |ct δ=>exact fun σ' H' P' k' rs=>h σ' H' P' (k.trans k') rs
  |rt x=>exact fun v H2 H' P' k' s d ap rx=>h v H2 H' P' (k.trans k') s d ap rx
def tS (E:XK) (F:DS->M Out):TS:=fun T σ H=>∃O P δ r,RS O P H σ δ/\F δ=some r/\Dc E O P H T r
def vw (X:Cx) (E:XK) (st:Stmt) (F:DS->M Out):Prop:=PS X st (tS E F)
def yy (X:Cx) (E:XK) (st:List Stmt) (F:DS->M Out):Prop:=qj X st (tS E F)
variable {X:Cx} {st:Stmt}
theorem PS.mono {t t':TS} (h:PS X st t) (m:∀T σ H,t' T σ H->t T σ H):PS X st t':=fun pins s σ H T I q=>h pins s σ H T I (m T σ H q)
theorem qj.mono {st:List Stmt} {t t':TS} (h:qj X st t) (m:∀T σ H,t' T σ H->t T σ H):qj X st t':=fun pins s σ H T I q=>h pins s σ H T I (m T σ H q)
noncomputable def JC (F:DS->M Out) (o:Out):M Out:=match o with
 |.nx δ=>F δ
 |.rt x=>rt (.rt x)
 |.bk δ=>rt (.bk δ)
 |.ct δ=>rt (.ct δ)
@[simp] theorem wj (F:DS->M Out) (δ:DS):JC F (.nx δ)=F δ:=rfl
@[simp] theorem wq (F:DS->M Out) (x:DV):JC F (.rt x)=rt (.rt x):=rfl
noncomputable def bE (F G:DS->M Out) (δ:DS):M Out:=bd (F δ) (JC G)
noncomputable def b9 (δ:DS):M Out:=rt (.nx δ)
section
variable {X:Cx} {E:XK} {st:Stmt} {sts:List Stmt} {F G:DS->M Out} {e c:Expr} {pos:Pos} {f:DS->M DV} {fr:DS->M (List DV)} {gc:DS->M Bool}
theorem cE:yy X E [] b9:=qj.mono ou fun T σ H q=>by
 obtain ⟨O,P,δ,r,rs,e,q⟩:=q;cases e;exact q σ H P (.refl) rs
theorem au (h1:vw X E st F) (h2:yy X E sts G):yy X E (st::sts) (bE F G):=qj.mono (fP h1 h2) fun T σ H q=>by
 obtain ⟨O,P,δ,r,rs,e,q⟩:=q;rcases ax e with ⟨o,e1,e2⟩|⟨c,e1,e2⟩
 ·cases o with
  |nx δ1=>exact ⟨O,P,δ,.ok (.nx δ1),rs,e1,fun σ' H' P' k L1=>⟨O,P',δ1,r,L1,e2,q.on k⟩⟩
  |rt x=>cases e2; exact ⟨O,P,δ,.ok (.rt x),rs,e1,q⟩
  |bk δ1=>cases e2; exact ⟨O,P,δ,.ok (.bk δ1),rs,e1,q⟩
  |ct δ1=>cases e2; exact ⟨O,P,δ,.ok (.ct δ1),rs,e1,q⟩
 ·subst e2;exact ⟨O,P,δ,.error c,rs,e1,q⟩
theorem aA (h1:vw X E st F):yy X E [st] F:=fE h1
noncomputable def frz (i:Nat) (δ:DS):DS:=match δ[i]? with
 |some (some (.own xs))=>δ.set i (some (.d (.list xs)))
 |some (some (.tpo p xs q))=>δ.set i (some (.d (.tuple (p++.list xs::q))))
 |_=>δ
variable {σ:St}
theorem RS.frzG (r:RS O P H σ δ) {d:D} (e:δ[i]?=some (some x)) (ev:σ[i]?=some (some v)) (o:qk H x v a) (hd:Rp (P.filter (fun b=>!decide (b=a))++O) H d v):RS O (P.filter (fun b=>!decide (b=a))) H σ (δ.set i (some (.d d))):=by
 have hi:i<δ.length:=(Lp.mp e).1;have sub:∀b,b∈P.filter (fun b=>!decide (b=a))->b∈P:=fun b hb=>(Lo.mp hb).1;have L':∀b,b∈P.filter (fun b=>!decide (b=a))++O->b∈P++O:=fun b hb=>by
  rcases Lk.mp hb with h|h
  ·exact K8 _ (sub b h)
  ·exact K7 _ h
 refine ⟨by simp [r.len],fun b hb=>r.dom b (L' b hb),fun b hb=>r.apart b (sub b hb),fun j y ej=>?_,fun j m y z v1 v2 c e1 e2 e3 e4 o1 o2=>?_⟩
 ·by_cases hj:i=j
  ·subst hj;rw [List.getElem?_set_self hi] at ej;cases ej;exact ⟨v,ev,fun _=>nofun,hd⟩
  ·rw [List.getElem?_set_ne hj] at ej;obtain ⟨w,e1,e2,e3⟩:=r.at' j y ej;refine ⟨w,e1,e2,?_⟩;have ne:∀c,qk H y w c->c∈P->c∈P.filter (fun b=>!decide (b=a)):=fun c oc hc=>by
    refine Lo.mpr ⟨hc,?_⟩;have:c≠a:=fun z=>hj (r.one i j x y v w a e ej ev e1 o (z▸oc));simpa using this
   cases y with
   |d y=>exact Rp.kp (.sub L') e3
   |ob C fs=>exact CD.kp (.sub L') e3
   |fz kvs=>exact xK.kp (.sub L') e3
   |ex q=>exact e3
   |tpo p xs q=>
    obtain ⟨t,b,ps,vs,qs,et,hz,ht,hb,hl,l1,l2,l3⟩:=e3;refine ⟨t,b,ps,vs,qs,et,fun h=>hz (L' t h),ht,ne b ⟨t,_,et,ht,?_⟩ hb,hl,l1.kp (.sub L'),l2.kp (.sub L'),l3.kp (.sub L')⟩;rw [l1.length,List.getElem?_append_right (K9 _),Nat.sub_self]; rfl
   |nwt p xs q=>exact (An.no e3).elim
   |own ys=>
    obtain ⟨b,us,eb,hPb,hb,hl⟩:=e3;exact ⟨b,us,eb,ne b eb hPb,hb,hl.kp (.sub L')⟩
   |new ys=>exact absurd rfl (e2 ys)
   |scr K ns=>
    obtain ⟨b,eb,hz⟩:=e3;exact ⟨b,eb,hz.imp (fun z=>⟨fun h=>z.1 (L' b h),z.2⟩) fun z=>z⟩
 ·have nj:∀(j:Nat) (y:DV),Em y=true->(δ.set i (some (.d d)))[j]?=some (some y)->δ[j]?=some (some y):=fun j y hy ej=>by
   by_cases hj:i=j
   ·subst hj;rw [List.getElem?_set_self hi] at ej;cases ej;cases hy
   ·rw [List.getElem?_set_ne hj] at ej; exact ej
  exact r.one j m y z v1 v2 c (nj j y o1.q e1) (nj m z o2.q e2) e3 e4 o1 o2
theorem RS.frz {O P:List Addr} {H:Hp} {σ:St} {δ:DS} (r:RS O P H σ δ) (i:Nat):∃P',(∀a,a∈P'->a∈P)/\RS O P' H σ (frz i δ):=by
 have sub:∀a b,b∈P.filter (fun b=>!decide (b=a))->b∈P:=fun a b hb=>(Lo.mp hb).1;have nota:∀a,a∈P->a∉P.filter (fun b=>!decide (b=a))++O:=fun a hP h=>by
  rcases Lk.mp h with h|h
  ·have:=(Lo.mp h).2; simp at this
  ·exact r.apart a hP h
 have L':∀a b,b∈P.filter (fun b=>!decide (b=a))++O->b∈P++O:=fun a b hb=>by
  rcases Lk.mp hb with h|h
  ·exact K8 _ (sub a b h)
  ·exact K7 _ h
 unfold L3.frz;split
 ·rename_i xs e;obtain ⟨v,ev,_,a,vs,rfl,hP,ha,l⟩:=r.at' i _ e;exact ⟨P.filter (fun b=>!decide (b=a)),sub a,r.frzG e ev rfl (Rp.lst (nota a hP) ha (l.kp (.sub (L' a))))⟩
 ·rename_i p xs q e;obtain ⟨v,ev,_,t,a,ps,vs,qs,rfl,hz,ht,hP,ha,l1,l2,l3⟩:=r.at' i _ e;refine ⟨P.filter (fun b=>!decide (b=a)),sub a,r.frzG e ev (a:=a) ⟨t,_,rfl,ht,?_⟩ (Rp.tup (fun h=>hz (L' a t h)) ht (RpL.append (l1.kp (.sub (L' a))) (.cons (Rp.lst (nota a hP) ha (l2.kp (.sub (L' a)))) (l3.kp (.sub (L' a))))))⟩;rw [l1.length,List.getElem?_append_right (K9 _),Nat.sub_self]; rfl
 ·exact ⟨P,fun _ h=>h,r⟩
theorem Dc.sub {O P P':List Addr} {H:Hp} {T:Ends} {r:Except Value Out} (h:Dc E O P H T r) (hs:∀a,a∈P'->a∈P):Dc E O P' H T r:=h.on (.sub hs)
theorem dt (i:Nat) (h:yy X E sts F):yy X E sts (fun δ=>F (frz i δ)):=qj.mono h fun T σ H q=>by
 obtain ⟨O,P,δ,r,rs,e,q⟩:=q;obtain ⟨P',hP,L1⟩:=rs.frz i;exact ⟨O,P',frz i δ,r,L1,e,q.sub hP⟩
noncomputable def gk (gc:DS->M Bool) (F G:DS->M Out) (δ:DS):M Out:=bd (gc δ) fun k=>if k=true then F δ else G δ
theorem dY {as bs:List Stmt} (hc:PB X E c gc) (ha:yy X E as F) (hb:yy X E bs G):vw X E (.If c as bs pos) (gk gc F G):=PS.mono (yB hc ha hb) fun T σ H q=>by
 obtain ⟨O,P,δ,r,rs,e,q⟩:=q;rcases ax e with ⟨k,e1,e2⟩|⟨cx,e1,e2⟩
 ·refine ⟨O,P,δ,.ok k,rs,e1,fun H1 s1=>?_⟩;cases k with
  |true=>exact wG ⟨O,P,δ,r,rs.same s1,e2,q.on (.same s1)⟩
  |false=>exact vL ⟨O,P,δ,r,rs.same s1,e2,q.on (.same s1)⟩
 ·subst e2;exact ⟨O,P,δ,.error cx,rs,e1,fun dx H' s=>q dx H' P (.same s)⟩
noncomputable def bx (f:DS->M DV) (δ:DS):M Out:=bd (f δ) fun x=>rt (.rt x)
theorem aT (he:PX X E e f):vw X E (.Return (some e) pos) (bx f):=PS.mono (vM he) fun T σ H q=>by
 obtain ⟨O,P,δ,r,rs,e,q⟩:=q;rcases ax e with ⟨x,e1,e2⟩|⟨cx,e1,e2⟩
 ·cases e2;exact ⟨O,P,δ,.ok x,rs,e1,fun v H1 s1 rx=>q v H H1 P .refl s1 rs.dom rs.apart rx⟩
 ·subst e2;exact ⟨O,P,δ,.error cx,rs,e1,fun dx H' s=>q dx H' P (.same s)⟩
noncomputable def o5 (f:DS->M DV) (δ:DS):M Out:=bd (f δ) fun _=>rt (.nx δ)
theorem Ff (he:PX X E e f) (hs:swapsWith e none pos.line X.env=pure false:=by rfl):vw X E (.Expr e pos) (o5 f):=PS.mono (kd he hs) fun T σ H q=>by
 obtain ⟨O,P,δ,r,rs,e,q⟩:=q;rcases ax e with ⟨x,e1,e2⟩|⟨cx,e1,e2⟩
 ·cases e2;exact ⟨O,P,δ,.ok x,rs,e1,fun v H1 s1 rx=>q σ H1 P (.same s1) (rs.same s1)⟩
 ·subst e2;exact ⟨O,P,δ,.error cx,rs,e1,fun dx H' s=>q dx H' P (.same s)⟩
noncomputable def va:DV->Option DV
 |.d x=>some (.d x)
 |.ob C fs=>some (.ob C fs)
 |.fz kvs=>some (.fz kvs)
 |.ex q=>some (.ex q)
 |.scr K ns=>some (.scr K ns)
 |.new xs=>some (.own xs)
 |.own _=>none
 |.tpo _ _ _=>none
 |.nwt p xs q=>some (.tpo p xs q)
@[simp] theorem vJ (x:D):va (.d x)=some (.d x):=rfl
@[simp] theorem r9 (C:Addr) (fs:List (Str×D)):va (.ob C fs)=some (.ob C fs):=rfl
@[simp] theorem pX (xs:List D):va (.new xs)=some (.own xs):=rfl
@[simp] theorem oV (K:Li) (ns:List Int):va (.scr K ns)=some (.scr K ns):=rfl
theorem RS.asg {y:DV} (r:RS O P H σ δ) (s1:aE H H1) (rx:RE O P H H1 x v) (h:va x=some y) (i:Nat) :
  ∃P',Kp P H P' H1/\RS O P' H1 (σ.set i (some v)) (δ.set i (some y)):=by
 cases x with
 |d z=>cases h; exact ⟨P,.same s1,(r.same s1).set rx (fun _=>nofun) rfl⟩
 |ob C fs=>cases h; exact ⟨P,.same s1,(r.same s1).set rx (fun _=>nofun) rfl⟩
 |fz kvs=>cases h; exact ⟨P,.same s1,(r.same s1).set rx (fun _=>nofun) rfl⟩
 |ex q=>cases h; exact ⟨P,.same s1,(r.same s1).set rx (fun _=>nofun) rfl⟩
 |own xs=>cases h
 |tpo p xs q=>cases h
 |nwt p xs q=>
  cases h;obtain ⟨a,hn,rs⟩:=r.ownT s1 rx (i:=i);refine ⟨a::P,⟨fun b o _ e=>s1 b o e,fun b hb=>?_⟩,rs⟩;rcases Lj.mp hb with z|z
  ·exact .inr (z▸hn)
  ·exact .inl z
 |scr K ns=>cases h; exact ⟨P,.same s1,(r.same s1).set rx (fun _=>nofun) rfl⟩
 |new xs=>
  cases h;obtain ⟨a,hn,rs⟩:=r.own s1 rx (i:=i);refine ⟨a::P,⟨fun b o _ e=>s1 b o e,fun b hb=>?_⟩,rs⟩;rcases Lj.mp hb with z|z
  ·exact .inr (z▸hn)
  ·exact .inl z
noncomputable def aK (i:Nat) (f:DS->M DV) (δ:DS):M Out:=bd (f δ) fun x=>bd (op (va x)) fun y=>rt (.nx (δ.set i (some y)))
theorem aJ {x:Str} {pos':Pos} (hN:X.N.Nodup) (he:PX X E e f) (hi:X.N[i]?=some x:=by rfl) (hx:HU X.env.scope x:=by first|exact Or.inl rfl|exact Or.inr rfl) (hs:swapsWith e (some (.Name x pos')) pos.line X.env=pure false:=by rfl)
  (hf:X.fn x=true\/X.env.scope.names.lookup x=some .local:=by first|exact .inl rfl|exact .inr rfl|assumption):vw X E (.Assign [.Name x pos'] e pos) (aK i f):=PS.mono (AQ hN hi hx he hs hf) fun T σ H q=>by
 obtain ⟨O,P,δ,r,rs,e,q⟩:=q;rcases ax e with ⟨x,e1,e2⟩|⟨cx,e1,e2⟩
 ·obtain ⟨y,e3,e4⟩:=bu e2;cases e4;refine ⟨O,P,δ,.ok x,rs,e1,fun v H1 s1 rx=>?_⟩;obtain ⟨P',k,L1⟩:=rs.asg s1 rx e3 i;exact q _ H1 P' k L1
 ·subst e2;exact ⟨O,P,δ,.error cx,rs,e1,fun dx H' s=>q dx H' P (.same s)⟩
noncomputable def CI (sf:D->DS->Option DS) (f:DS->M DV) (δ:DS):M Out:=bd (f δ) fun x=>bd (op (uh x)) fun d=>bd (op (sf d δ)) fun δ'=>rt (.nx δ')
theorem Aa {tg:Expr} {g:TG} {sf:D->DS->Option DS} (he:PX X E e f) (hg:PG X tg g) (ht:EE g sf) (hs:swapsWithSole [tg] e pos.line X.env=pure false:=by rfl) (hw:swappedStores [tg] e X.env=pure none:=by rfl)
  (h1:(assignEach [tg] X.env).map (·.2)=[assign tg X.env]:=by rfl):vw X E (.Assign [tg] e pos) (CI sf f):=PS.mono (Gm he hg hs hw h1) fun T σ H q=>by
 obtain ⟨O,P,δ,r,rs,e,q⟩:=q;rcases ax e with ⟨x,e1,e2⟩|⟨cx,e1,e2⟩
 ·obtain ⟨d,e3,e4⟩:=bu e2;obtain ⟨δ',e5,e6⟩:=bu e4;cases e6;refine ⟨O,P,δ,.ok x,rs,e1,fun v H1 s1 rx=>?_⟩;exact ht O P H1 σ δ δ' d v _ (rs.same s1) (rx.data rs.dom e3) e5 fun σ' L1=>q σ' H1 P (.same s1) L1
 ·subst e2;exact ⟨O,P,δ,.error cx,rs,e1,fun dx H' s=>q dx H' P (.same s)⟩
noncomputable def G6 (i j:Nat) (fr:DS->M (List DV)) (δ:DS):M Out:=bd (fr δ) fun xs=>bd (op (dX xs)) fun ds=>match ds with
 |[x,y]=>rt (.nx ((δ.set i (some (.d x))).set j (some (.d y))))
 |_=>none
noncomputable def kj (i:Nat) (f:DS->M DV) (δ:DS):M Out:=match δ[i]? with
 |some (some (.own xs))=>bd (f δ) fun x=>bd (op (uh x)) fun d=>if xs.length<1000000 then rt (.nx (δ.set i (some (.own (xs++[d]))))) else none
 |_=>none
theorem RS.growG {x':DV} {us:List V} (r:RS O P H σ δ) (e:δ[i]?=some (some x)) (ev:σ[i]?=some (some v)) (o:qk H x v a) (hx:∀xs,x'≠.new xs) (rx:RE O P (upd H a (.lst us)) (upd H a (.lst us)) x' v) (ox:∀b,qk (upd H a (.lst us)) x' v b->b=a) (hP:a∈P) :
  Kp P H P (upd H a (.lst us))/\RS O P (upd H a (.lst us)) σ (δ.set i (some x')):=by
 have hi:i<δ.length:=(Lp.mp e).1;have k:Kp P H P (upd H a (.lst us)):=⟨fun b o hb q=>by rw [aD (show b≠a from fun z=>hb (by rw [z]; exact hP))]; exact q,fun b hb=>.inl hb⟩;have kz:Kp (P++O) H (P++O) (upd H a (.lst us)):=⟨fun b o hb q=>by rw [aD (show b≠a from fun z=>hb (by rw [z]; exact K8 _ hP))]; exact q,fun b hb=>.inl hb⟩;have old:∀(j:Nat) (y:DV) (w:V) (c:Addr),δ[j]?=some (some y)->σ[j]?=some (some w)->qk (upd H a (.lst us)) y w c->qk H y w c:=fun j y w c e q o=>by
  obtain ⟨w',e1,_,r1⟩:=r.at' j _ e;rw [q] at e1;cases e1;exact o.old kz.keep r1
 refine ⟨k,by simp [r.len],fun b hb=>?_,r.apart,fun j y ej=>?_,fun j m y z v1 v2 c e1 e2 e3 e4 o1 o2=>?_⟩
 ·by_cases My:b=a
  ·exact ⟨_,by rw [My,aM]⟩
  ·rw [aD My]; exact r.dom b hb
 ·by_cases hj:i=j
  ·subst hj;rw [List.getElem?_set_self hi] at ej;cases ej;exact ⟨v,ev,hx,rx⟩
  ·rw [List.getElem?_set_ne hj] at ej;obtain ⟨w,e1,e2,e3⟩:=r.at' j y ej;refine ⟨w,e1,e2,?_⟩;have ne:∀c,qk H y w c->c≠a:=fun c oc z=>hj (r.one i j x y v w a e ej ev e1 o (z▸oc));cases y with
   |d y=>exact Rp.kp kz e3
   |ob C fs=>exact CD.kp kz e3
   |fz kvs=>exact xK.kp kz e3
   |ex q=>exact e3
   |tpo p xs q=>
    obtain ⟨t,b,ps,vs,qs,et,hz,ht,hb,hl,l1,l2,l3⟩:=e3;have N8:b≠a:=ne b ⟨t,_,et,ht,by rw [l1.length,List.getElem?_append_right (K9 _),Nat.sub_self]; rfl⟩;exact ⟨t,b,ps,vs,qs,et,hz,(kz.at hz ht).2,hb,by rw [aD N8]; exact hl,l1.kp kz,l2.kp kz,l3.kp kz⟩
   |nwt p xs q=>exact (An.no e3).elim
   |own zs=>
    obtain ⟨b,vs,eb,hPb,hb,hl⟩:=e3;have N8:b≠a:=ne b eb;exact ⟨b,vs,eb,hPb,by rw [aD N8]; exact hb,hl.kp kz⟩
   |new zs=>exact absurd rfl (e2 zs)
   |scr K ns=>
    obtain ⟨b,eb,⟨hz,hb⟩|hk⟩:=e3
    ·have hba:b≠a:=fun z=>hz (by rw [z]; exact K8 _ hP);refine ⟨b,eb,.inl ⟨hz,?_⟩⟩;rcases hb with hb|⟨ob,hb⟩
     ·exact .inl (by rw [aD hba]; exact hb)
     ·exact .inr ⟨ob,by rw [aD hba]; exact hb⟩
    ·exact ⟨b,eb,.inr hk⟩
 ·have nj:∀(j:Nat) (y:DV) (w:V),(δ.set i (some x'))[j]?=some (some y)->σ[j]?=some (some w)->qk (upd H a (.lst us)) y w c->∃y',δ[j]?=some (some y')/\qk H y' w c:=fun j y w ej eq oc=>by
   by_cases hj:i=j
   ·subst hj;rw [List.getElem?_set_self hi] at ej;cases ej;rw [ev] at eq;cases eq;have hc:=ox c oc;exact ⟨x,e,hc▸o⟩
   ·rw [List.getElem?_set_ne hj] at ej; exact ⟨y,ej,old j y w c ej eq oc⟩
  obtain ⟨z1,d1,p1⟩:=nj j _ _ e1 e3 o1;obtain ⟨z2,d2,p2⟩:=nj m _ _ e2 e4 o2;exact r.one j m z1 z2 v1 v2 c d1 d2 e3 e4 p1 p2
theorem RS.grow {ys:List D} {us:List V} (r:RS O P H σ δ) (e:δ[i]?=some (some (.own xs))) (ev:σ[i]?=some (some (.ref a))) (l:RpL (P++O) H ys us) (hP:a∈P) :
  Kp P H P (upd H a (.lst us))/\RS O P (upd H a (.lst us)) σ (δ.set i (some (.own ys))):=by
 have kz:Kp (P++O) H (P++O) (upd H a (.lst us)):=⟨fun b o hb q=>by rw [aD (show b≠a from fun z=>hb (by rw [z]; exact K8 _ hP))]; exact q,fun b hb=>.inl hb⟩;exact r.growG e ev (x:=.own xs) rfl (fun _=>nofun) ⟨a,us,rfl,hP,aM,l.kp kz⟩ (fun b h=>by
  have h':V.ref a=.ref b:=h;cases h'; rfl) hP
theorem rW {o:Expr} {apos G':Pos} (ho:PE X o (gy i)) (he:PX X E e f)
  (L9:attributeBase o "append" X.env (eval o X.env)=eval o X.env:=by rfl)
  (Mq:((backTo G' (starEach [e] X.env)).all (fun x=>!x.1)&&(backToKw G' (keywordEach [] X.env)).all (fun x=>x.1.isSome)
   && decide ([e].length+([]:List Keyword).length+(if ([]:List Keyword).isEmpty then 0 else 1)<30))=true:=by rfl)
  (L6:(apos.endLine==G'.line)=true:=by rfl) (hs:starEach [e] X.env=(false,eval e X.env)::starEach [] X.env:=by rfl) (LX:(backTo G' (starEach [] X.env)).any (·.1)=false:=by rfl)
  (Np:swapsWith (.Call (.Attribute o "append" apos) [e] [] G') none pos.line X.env=pure false:=by rfl):vw X E (.Expr (.Call (.Attribute o "append" apos) [e] [] G') pos) (kj i f):=
 PS.mono (kd (ro PySem.F.plainAttrs_list PySem.F.slot_list_append PySem.F.type_list_append mI ho (iO he jy hs) L9 Mq L6 hs LX) Np) fun T σ H q=>by
  obtain ⟨O,P,δ,r,rs,e,q⟩:=q;unfold kj at e;split at e
  ·rename_i xs ei;obtain ⟨v,ev,_,a,vs,rfl,hP,ha,l⟩:=rs.at' i _ ei;refine ⟨.ref a,ev,.inl ⟨rfl,_,eN.of ha⟩,?_⟩;rcases ax e with ⟨x,e1,e2⟩|⟨cx,e1,e2⟩
   ·obtain ⟨d,e3,e4⟩:=bu e2;split at e4
    ·rename_i hz;cases e4;refine ⟨O,P,δ,.ok x,rs,e1,fun u H1 s1 rx=>?_⟩;have ru:=rx.data rs.dom e3;have l1:=(l.kp (.same s1)).append (.cons ru .nil);obtain ⟨k,L1⟩:=(rs.same s1).grow ei ev l1 hP;refine ⟨a,vs,u,rfl,rfl,s1 a _ ha,?_,q σ _ P ((Kp.same s1).trans k) L1⟩;rw [<-l.length];exact Lx hz (by rw [sizeLine_eq]; decide)
    ·cases e4
   ·subst e2;exact ⟨O,P,δ,.error cx,rs,e1,fun dx H' s=>q dx H' P (.same s)⟩
  ·cases e
end
theorem Kp.app {P':List Addr} (k:Kp P H P' H'):Kp (P++O) H (P'++O) H':=⟨fun a o ha e=>k.keep a o (fun h=>ha (K8 _ h)) e,fun a ha=>by
 rcases Lk.mp ha with h|h
 ·rcases k.new a h with z|z
  ·exact .inl (K8 _ z)
  ·exact .inr z
 ·exact .inl (K7 _ h)⟩
def Fc (O P:List Addr) (H:Hp) (J:It) (xs:List D):Prop:=∀(i:Nat) (P':List Addr) (H':Hp),Kp P H P' H' ->
 (∀d,xs[i]?=some d->J.go i H'/\∀x H2,J.yld i H' x H2->H2=H'/\Rp (P'++O) H' d x)/\(xs.length<=i->J.stop i H')
def KY (E:XK) (O P:List Addr) (H:Hp) (R:It->Hp->Prop):Except Value (List D)->Prop
 |.ok xs=>∀J H',aE H H'->Fc O P H' J xs->R J H'
 |.error c=>∀dx H',aE H H'->E c dx H'
def tI (E:XK) (f:DS->M (List D)):TI:=fun σ H R=>∃O P δ r,RS O P H σ δ/\f δ=some r/\KY E O P H R r
def CG (X:Cx) (E:XK) (tg iter:Expr) (f:DS->M (List D)):Prop:=PI X tg iter (tI E f)
theorem PI.mono {tg e:Expr} {t t':TI} (h:PI X tg e t) (m:∀σ H R,t' σ H R->t σ H R):PI X tg e t':=fun pins s σ H R I q=>h pins s σ H R I (m σ H R q)
noncomputable def hX (f:DS->M DV) (δ:DS):M (List D):=bd (f δ) fun x=>match uh x with
 |some (.list xs)=>rt xs
 |_=>none
noncomputable def G8 (f:DS->M DV) (δ:DS):M (List D):=bd (f δ) fun x=>match x with
 |.d (.tuple xs)=>rt xs
 |_=>none
noncomputable def dS (lo:Int) (n:Nat):List D:=(List.range n).map fun (k:Nat)=>PyData.int (lo+(k:Int))
theorem d6 (lo:Int) (n:Nat):(dS lo n).length=n:=by simp [dS]
variable {d:D}
theorem AY {lo:Int} (h:(dS lo n)[i]?=some d):i<n/\d=.int (lo+(i:Int)):=by
 have hi:i<n:=by rw [<-d6 lo n]; exact (Lp.mp h).1
 refine ⟨hi,?_⟩;unfold dS at h;rw [List.getElem?_map,List.getElem?_range hi] at h;cases h; rfl
noncomputable def rS (fr:DS->M (List DV)) (δ:DS):M (List D):=bd (fr δ) fun xs=>match xs with
 |[.d (.int j)]=>if -(2 ^ 62)<=j/\j<2 ^ 62 then rt (dS 0 j.toNat) else none
 |_=>none
noncomputable def mv (fr:DS->M (List DV)) (δ:DS):M (List D):=bd (fr δ) fun xs=>match xs with
 |[.d (.int i),.d (.int j)]=>if -(2 ^ 62)<=i/\i<2 ^ 62/\-(2 ^ 62)<=j/\j<2 ^ 62 then rt (dS i (j-i).toNat) else none
 |_=>none
section
variable {X:Cx} {E:XK} {tg e a b:Expr} {f:DS->M DV} {fr:DS->M (List DV)} {p pos:Pos}
theorem uS (lo:Int) (n:Nat):Fc O P H (IK lo n) (dS lo n):=fun i P' H' k=>by
 refine ⟨fun d hd=>?_,fun h=>?_⟩
 ·obtain ⟨hi,rfl⟩:=AY hd;exact ⟨hi,fun x H2 ⟨e1,e2⟩=>⟨e1,by rw [e2]; exact .int _⟩⟩
 ·rw [d6] at h; exact h
theorem EI (r:Rp (P++O) H (.list xs) v):∃a,v=.ref a/\(∃vs,eN K H a vs)/\Fc O P H (JS K a) xs:=by
 cases r with
 |@lst a _ vs hz ha l=>
  refine ⟨a,rfl,⟨vs,eN.of ha⟩,fun i P' H' k=>?_⟩;have Nm:=k.keep a _ (fun h=>hz (K8 _ h)) ha;have l':=l.kp (Kp.app (O:=O) k);refine ⟨fun d hd=>?_,fun h=>⟨vs,eN.of Nm,by rw [<-l.length]; exact h⟩⟩;obtain ⟨x,hx,rx⟩:=l'.get hd;refine ⟨⟨vs,x,eN.of Nm,hx⟩,fun y H2 ⟨e1,e2⟩=>⟨e1,?_⟩⟩;have:=e2 vs (eN.of Nm);rw [hx] at this;cases this; exact rx
theorem Gu (r:Rp (P++O) H (.tuple xs) v):∃a,v=.ref a/\(∃vs,j8 K H a vs)/\Fc O P H (JQ K a) xs:=by
 cases r with
 |@tup a _ vs hz ha l=>
  refine ⟨a,rfl,⟨vs,j8.of ha⟩,fun i P' H' k=>?_⟩;have Nm:=k.keep a _ (fun h=>hz (K8 _ h)) ha;have l':=l.kp (Kp.app (O:=O) k);refine ⟨fun d hd=>?_,fun h=>⟨vs,j8.of Nm,by rw [<-l.length]; exact h⟩⟩;obtain ⟨x,hx,rx⟩:=l'.get hd;refine ⟨⟨vs,x,j8.of Nm,hx⟩,fun y H2 ⟨e1,e2⟩=>⟨e1,?_⟩⟩;have:=e2 vs (j8.of Nm);rw [hx] at this;cases this; exact rx
theorem dZ (he:PX X E e f):CG X E tg e (hX f):=PI.mono (Fe he) fun σ H R q=>by
 obtain ⟨O,P,δ,r,rs,e,q⟩:=q;rcases ax e with ⟨x,e1,e2⟩|⟨cx,e1,e2⟩
 ·refine ⟨O,P,δ,.ok x,rs,e1,fun v H1 s1 rx=>?_⟩;split at e2
  ·rename_i xs h;cases e2;obtain ⟨a,rfl,h1,h2⟩:=EI (K:=X.K) (rx.data rs.dom h);exact ⟨a,rfl,h1,q _ H1 s1 h2⟩
  ·cases e2
 ·subst e2;exact ⟨O,P,δ,.error cx,rs,e1,q⟩
theorem Ao (he:PX X E e f):CG X E tg e (G8 f):=PI.mono (HB he) fun σ H R q=>by
 obtain ⟨O,P,δ,r,rs,e,q⟩:=q;rcases ax e with ⟨x,e1,e2⟩|⟨cx,e1,e2⟩
 ·refine ⟨O,P,δ,.ok x,rs,e1,fun v H1 s1 rx=>?_⟩;split at e2
  ·cases e2;obtain ⟨a,rfl,h1,h2⟩:=Gu (K:=X.K) rx;exact ⟨a,rfl,h1,q _ H1 s1 h2⟩
  ·cases e2
 ·subst e2;exact ⟨O,P,δ,.error cx,rs,e1,q⟩
theorem l0 (hm:X.mg "range" = none) (ha:t6 X E [a] fr) (hg:Gl X "range" :=by rfl) (hs:starEach [a] X.env=[(false,eval a X.env)]:=by rfl):CG X E tg (.Call (.Name "range" p) [a] [] pos) (rS fr):=PI.mono (yZ hg hm ha hs) fun σ H R q=>by
 obtain ⟨O,P,δ,r,rs,e,q⟩:=q;rcases ax e with ⟨xs,e1,e2⟩|⟨cx,e1,e2⟩
 ·refine ⟨O,P,δ,.ok xs,rs,e1,fun vs H1 s1 rx=>?_⟩;split at e2
  ·split at e2
   ·rename_i h;cases e2;cases rx with
    |cons r1 rr=>
     cases rr;cases r1;exact ⟨_,rfl,h.1,h.2,q _ H1 s1 (uS 0 _)⟩
   ·cases e2
  ·cases e2
 ·subst e2;exact ⟨O,P,δ,.error cx,rs,e1,q⟩
theorem lP (hm:X.mg "range" = none) (ha:t6 X E [a,b] fr) (hg:Gl X "range" :=by rfl) (hs:starEach [a,b] X.env=[(false,eval a X.env),(false,eval b X.env)]:=by rfl) (M6:starEach [b] X.env=[(false,eval b X.env)]:=by rfl) :
  CG X E tg (.Call (.Name "range" p) [a,b] [] pos) (mv fr):=PI.mono (zJ hg hm ha hs M6) fun σ H R q=>by
 obtain ⟨O,P,δ,r,rs,e,q⟩:=q;rcases ax e with ⟨xs,e1,e2⟩|⟨cx,e1,e2⟩
 ·refine ⟨O,P,δ,.ok xs,rs,e1,fun vs H1 s1 rx=>?_⟩;split at e2
  ·split at e2
   ·rename_i h;cases e2;cases rx with
    |cons r1 rr=>
     cases rr with
     |cons r2 rr=>
      cases rr;cases r1;cases r2;exact ⟨_,_,rfl,h,q _ H1 s1 (uS _ _)⟩
   ·cases e2
  ·cases e2
 ·subst e2;exact ⟨O,P,δ,.error cx,rs,e1,q⟩
end
noncomputable def Kt (G:DS->M Out) (o:Out):M Out:=match o with
 |.nx δ=>G δ
 |.ct δ=>G δ
 |.bk δ=>rt (.nx δ)
 |.rt x=>rt (.rt x)
@[simp] theorem kY (G:DS->M Out) (δ:DS):Kt G (.nx δ)=G δ:=rfl
noncomputable def dw (sf:D->DS->Option DS) (B:DS->M Out):List D->DS->M Out
 |[],δ=>rt (.nx δ)
 |d::r,δ=>bd (op (sf d δ)) fun δ1=>bd (B δ1) (Kt (dw sf B r))
noncomputable def cG (fi:DS->M (List D)) (sf:D->DS->Option DS) (B:DS->M Out) (δ:DS):M Out:=bd (fi δ) fun xs=>dw sf B xs δ
section
variable {X:Cx} {E:XK} {tg iter:Expr} {body:List Stmt} {fi:DS->M (List D)} {g:TG} {sf:D->DS->Option DS} {B:DS->M Out} {pos:Pos}
theorem d8 (hp:PassesOwn (model X.prog X.w) X.A X.env X.xe) (hc:X.calm=true) (hi:CG X E tg iter fi) (hg:PG X tg g) (ht:EE g sf) (hb:yy X E body B)
  (hs:∀x,foldedSetIterable iter X.env x=pure x:=by intro _; rfl):vw X E (.For tg iter body [] pos) (cG fi sf B):=PS.mono (tO hp hc hi hg hb hs) fun T σ H q=>by
 obtain ⟨O,P,δ,r,rs,e,q⟩:=q;rcases ax e with ⟨xs,e1,e2⟩|⟨cx,e1,e2⟩
 ·refine ⟨O,P,δ,.ok xs,rs,e1,fun J H1 s1 it=>?_⟩;refine ⟨fun i m σ' H'=>m=xs.length-i/\i<=xs.length/\∃P' δ',Kp P H1 P' H'/\RS O P' H' σ' δ'/\dw sf B (xs.drop i) δ'=some r,⟨xs.length,0x4,Lv _,P,δ,.refl,rs.same s1,e2⟩,?_⟩;rintro i m σ' H' ⟨rfl,hi,P',δ',k,L1,el⟩;have q':=q.on ((Kp.same s1).trans k);by_cases LV:i<xs.length
  ·obtain ⟨go,yl⟩:=(it i P' H' k).1 xs[i] (by simp [LV]);refine .inr ⟨go,fun σ2 H2=>∃P2 δ2,Kp P H1 P2 H2/\RS O P2 H2 σ2 δ2/\dw sf B (xs.drop (i+1)) δ2=some r,fun σ2 H2 ⟨P2,δ2,h1,h2,h3⟩=>⟨xs.length-(i+1),0x1,rfl,LV,P2,δ2,h1,h2,h3⟩,fun x H2 hy=>?_⟩;obtain ⟨rfl,rx⟩:=yl x H2 hy;rw [List.drop_eq_getElem_cons LV] at el;obtain ⟨δ1,e3,e4⟩:=bu el;refine ht O P' H2 σ' δ' δ1 _ x _ L1 rx e3 fun σ1 LK=>?_;rcases ax e4 with ⟨o,e5,e6⟩|⟨cx,e5,e6⟩
   ·refine ⟨O,P',δ1,.ok o,LK,e5,?_⟩;cases o with
    |nx δ2=>exact fun σ2 H3 P2 k2 NV=>⟨P2,δ2,k.trans k2,NV,e6⟩
    |ct δ2=>exact fun σ2 H3 P2 k2 NV=>⟨P2,δ2,k.trans k2,NV,e6⟩
    |bk δ2=>cases e6; exact q'
    |rt y=>cases e6; exact q'
   ·subst e6;exact ⟨O,P',δ1,.error cx,LK,e5,q'⟩
  ·have MK:i=xs.length:=by lia
   subst MK;rw [List.drop_length] at el;cases el;exact .inl ⟨(it _ P' H' k).2 (K9 _),q' σ' H' P' .refl L1⟩
 ·subst e2;exact ⟨O,P,δ,.error cx,rs,e1,fun dx H' s=>q dx H' P (.same s)⟩
end
noncomputable def cK (k:Nat) (js:List Nat) (δ:DS):DS:=List.replicate k none++js.map fun j=>(δ[j]?).join
theorem tU {o:Option (Option α)} {x:α} (h:o.join=some x):o=some (some x):=by
 cases o with
 |none=>cases h
 |some z=>simp only [Option.join] at h; rw [<-h]; rfl
variable {σ:St}
theorem RS.block (r:RS O P H σ δ) (k:Nat) (js:List Nat) (hj:js.Nodup):RS O P H (jA k js σ) (cK k js δ):=by
 have at0:∀(i:Nat) (x:DV),(cK k js δ)[i]?=some (some x)->k<=i/\∃j,js[i-k]?=some j/\δ[j]?=some (some x):=fun i x h=>by
  unfold cK at h;by_cases hi:i<k
  ·rw [List.getElem?_append_left (by simpa using hi),List.getElem?_replicate] at h;split at h <;> cases h
  ·rw [List.getElem?_append_right (by simpa using hi),List.length_replicate,List.getElem?_map] at h;cases e:js[i-k]? with
   |none=>rw [e] at h; cases h
   |some j=>
    rw [e] at h;exact ⟨0x1,j,rfl,tU (LD h)⟩
 have sg:∀(i j:Nat),k<=i->js[i-k]?=some j->(jA k js σ)[i]?=some ((σ[j]?).join):=fun i j hi e=>by
  unfold jA;rw [List.getElem?_append_right (by simpa using hi),List.length_replicate,List.getElem?_map,e];rfl
 refine ⟨by unfold jA cK; simp,r.dom,r.apart,fun i x h=>?_,fun i j x y v w c h1 h2 h3 h4 o1 o2=>?_⟩
 ·obtain ⟨hi,j,ej,ed⟩:=at0 i x h;obtain ⟨v,e1,e2,e3⟩:=r.at' j x ed;exact ⟨v,by rw [sg i j hi ej,e1]; rfl,e2,e3⟩
 ·obtain ⟨hi,i',ei,di⟩:=at0 i _ h1;obtain ⟨NZ,j',ej,dj⟩:=at0 j _ h2;rw [sg i i' hi ei] at h3;rw [sg j j' NZ ej] at h4;have:=r.one i' j' x y v w c di dj (tU (LD h3)) (tU (LD h4)) o1 o2;subst this;obtain ⟨l1,g1⟩:=Lp.mp ei;obtain ⟨l2,g2⟩:=Lp.mp ej;have:=(List.getElem_inj hj).mp (g1.trans g2.symm);lia
noncomputable def cH (sf:D->DS->Option DS) (gc:DS->M Bool) (fe:DS->M DV) (δ:DS):List D->Option (List D)
 |[]=>some []
 |d::r=>match sf d δ with
  |none=>none
  |some δ1=>match gc δ1 with
   |some (.ok false)=>cH sf gc fe δ r
   |some (.ok true)=>match fe δ1 with
    |some (.ok y)=>match uh y,cH sf gc fe δ r with
     |some z,some zs=>some (z::zs)
     |_,_=>none
    |_=>none
   |_=>none
noncomputable def bN (_:DS):M Bool:=rt true
noncomputable def aU (k:Nat) (js:List Nat) (fi:DS->M (List D)) (sf:D->DS->Option DS) (gc:DS->M Bool) (fe:DS->M DV) (δ:DS):M DV:=bd (fi δ) fun xs=>if xs.length<=1000000 then bd (op (cH sf gc fe (cK k js δ) xs)) fun ys=>rt (.new ys) else none
theorem dc:PF X [] (zX E0 bN):=fun pins s σ H Q I q=>FW pins s σ H Q I (by
 obtain ⟨O,P,δ,r,rs,e,q⟩:=q;cases e;exact q H (aE.refl H))
theorem mY {sf:D->DS->Option DS} {gc:DS->M Bool} {fe:DS->M DV} {δ:DS}:∀{xs ys:List D},cH sf gc fe δ xs=some ys->ys.length<=xs.length
 |[],ys,h=>by cases h; simp
 |d::r,ys,h=>by
  unfold cH at h;split at h
  ·cases h
  ·split at h
   ·have:=mY (xs:=r) h;simp; lia
   ·split at h
    ·split at h
     ·rename_i z zs e1 e2;cases h;have:=mY (xs:=r) e2;simp; lia
     ·cases h
    ·cases h
   ·cases h
section
variable {X:Cx} {E:XK} {k:Nat} {js:List Nat} {N':List Str} {scope:Scope} {elt tg iter:Expr} {ifs:List Expr} {pos:Pos} {fi:DS->M (List D)} {g:TG} {sf:D->DS->Option DS} {gc:DS->M Bool} {fe:DS->M DV}
theorem rm (hj:js.Nodup) (ht:EE g sf) (Ma:∀δ d δ1,sf d (cK k js δ)=some δ1->Sub (cK k js δ) δ1) (q:tE E (aU k js fi sf gc fe) σ H Q):xo (tI E fi) k js g (zX E0 gc) (tE E0 fe) σ H Q:=by
 obtain ⟨O,P,δ,r,rs,e,q⟩:=q;rcases ax e with ⟨xs,e1,e2⟩|⟨cx,e1,e2⟩
 ·refine ⟨O,P,δ,.ok xs,rs,e1,fun J H1 s1 it=>?_⟩;split at e2
  ·rename_i hz;obtain ⟨ys,e3,e4⟩:=bu e2;cases e4;have hlen:=mY e3;refine ⟨fun i m σ' H' vs=>m=xs.length-i/\i<=xs.length/\aE H1 H'/\RS O P H' σ' (cK k js δ)/\∃ds es,RpL (P++O) H' ds vs/\cH sf gc fe (cK k js δ) (xs.drop i)=some es/\ys=ds++es,
    ⟨xs.length,0x4,Lv _,aE.refl H1,(rs.same s1).block k js hj,[],ys,.nil,e3,rfl⟩,?_⟩
   rintro i m σ' H' vs ⟨rfl,hi,sH,L1,ds,es,l,ec,ey⟩;have hvl:vs.length<=ys.length:=by rw [ey,<-l.length]; simp
   by_cases LV:i<xs.length
   ·refine .inr ?_;rw [List.drop_eq_getElem_cons LV] at ec;unfold cH at ec;obtain ⟨go,yl⟩:=(it i P H' (.same sH)).1 xs[i] (by simp [LV]);split at ec
    ·cases ec
    ·rename_i δ1 e5;refine ⟨go,Nat.lt_of_le_of_lt (Lw hvl (Lw hlen hz)) (by rw [sizeLine_eq]; decide),fun x H2 hy=>?_⟩;obtain ⟨rfl,rx⟩:=yl x H2 hy;refine ht O P H2 σ' _ δ1 _ x _ L1 rx e5 fun σ1 LK=>?_;have hsb:=Ma δ _ δ1 e5;split at ec
     ·rename_i e6;refine ⟨O,P,δ1,.ok false,LK,e6,fun H3 s3=>?_⟩;exact vL ⟨xs.length-(i+1),0x1,rfl,LV,sH.trans s3,(LK.same s3).forget hsb,ds,es,l.kp (.same s3),ec,ey⟩
     ·rename_i e6;refine ⟨O,P,δ1,.ok true,LK,e6,fun H3 s3=>?_⟩;refine wG ?_;split at ec
      ·rename_i y e7;split at ec
       ·rename_i z zs e8 e9;cases ec;refine ⟨O,P,δ1,.ok y,LK.same s3,e7,fun v H4 s4 ry=>?_⟩;refine ⟨xs.length-(i+1),0x1,rfl,LV,sH.trans (s3.trans s4),(LK.same (s3.trans s4)).forget hsb,ds++[z],zs,(l.kp (.same (s3.trans s4))).append (.cons (ry.data (LK.same s3).dom e8) .nil),e9,?_⟩;rw [ey,List.append_assoc]; rfl
       ·cases ec
      ·cases ec
     ·cases ec
   ·have MK:i=xs.length:=by lia
    subst MK;rw [List.drop_length] at ec;cases ec;refine .inl ⟨(it _ P H' (.same sH)).2 (K9 _),Lw hvl (line_big (Lw hlen hz)),fun p hp=>?_⟩;rw [ey,List.append_nil] at q;exact q _ _ ((s1.trans sH).trans (bb hp)) (RE.made (s1.trans sH) hp l)
  ·cases e2
 ·subst e2;exact ⟨O,P,δ,.error cx,rs,e1,q⟩
theorem bG (S:CompFit X k js N' scope) (hj:js.Nodup) (hc:X.calm=true) (hi:CG X E tg iter fi) (ht:EE g sf) (Ma:∀δ d δ1,sf d (cK k js δ)=some δ1->Sub (cK k js δ) δ1)
  (hg:∀C s₂ H₂ fp,PG (aQ X N' scope C s₂ H₂ fp) tg g) (hf:∀C s₂ H₂ fp,PF (aQ X N' scope C s₂ H₂ fp) ifs (zX E0 gc)) (he:∀C s₂ H₂ fp,PX (aQ X N' scope C s₂ H₂ fp) E0 elt fe)
  (hs:∀x,foldedSetIterable iter X.env x=pure x:=by intro _; rfl):PX X E (.ListComp elt [⟨tg,iter,ifs,0⟩] scope pos) (aU k js fi sf gc fe):=
 PE.mono (EV S hc hi hg hf he hs) fun σ H Q q=>rm hj ht Ma q
end
noncomputable def m9 (N:List Str) (xs:List DV):DS:=xs.map some++List.replicate (N.length-xs.length) none
noncomputable def res:DV->DV
 |.own xs=>.new xs
 |.tpo p xs q=>.nwt p xs q
 |x=>x
@[simp] theorem AK (x:D):res (.d x)=.d x:=rfl
@[simp] theorem tm (xs:List D):res (.own xs)=.new xs:=rfl
@[simp] theorem sO (xs:List D):res (.new xs)=.new xs:=rfl
@[simp] theorem wu (C:Addr) (fs:List (Str×D)):res (.ob C fs)=.ob C fs:=rfl
noncomputable def zp:Out->M DV
 |.rt x=>rt (res x)
 |.nx _=>rt (.d .none)
 |_=>none
@[simp] theorem sR (x:DV):zp (.rt x)=rt (res x):=rfl
@[simp] theorem sE (δ:DS):zp (.nx δ)=rt (.d .none):=rfl
noncomputable def eT (N:List Str) (F:DS->M Out) (xs:List DV):M DV:=bd (F (m9 N xs)) zp
theorem RS.start {N:List Str} {O:List Addr} {H:Hp} {xs:List DV} {vs:List V} (dom:∀a,a∈O->∃o,H a=some o) (r:lu O [] H H xs vs):RS O [] H (L2.start N vs) (m9 N xs):=by
 have hl:xs.length=vs.length:=Paired.length r;have at0:∀(i:Nat) (x:DV),(m9 N xs)[i]?=some (some x)->xs[i]?=some x:=fun i x h=>by
  unfold m9 at h;by_cases hi:i<xs.length
  ·rw [List.getElem?_append_left (by simpa using hi),List.getElem?_map] at h;cases e:xs[i]? with
   |none=>rw [e] at h; cases h
   |some y=>rw [e] at h; cases h; rfl
  ·rw [List.getElem?_append_right (by simpa using hi),List.getElem?_replicate] at h;split at h <;> cases h
 have gets:∀{xs:List DV} {vs:List V},lu O [] H H xs vs->∀(i:Nat) (x:DV),xs[i]?=some x->∃v,vs[i]?=some v/\RE O [] H H x v:=by
  intro xs vs r
  induction r with
  |nil=>intro i x h; simp at h
  |cons r1 _ ih=>
   intro i x h;cases i with
   |zero=>simp at h; subst h; exact ⟨_,rfl,r1⟩
   |succ i=>simpa using ih i x (by simpa using h)
 have sv:∀(i:Nat) (v:V),vs[i]?=some v->(L2.start N vs)[i]?=some (some v):=fun i v h=>by
  have hi:i<vs.length:=(Lp.mp h).1;unfold L2.start;rw [List.getElem?_append_left (by simpa using hi),List.getElem?_map,h]; rfl
 refine ⟨by unfold L2.start m9; simp [hl],fun a ha=>dom a ha,fun a ha=>(by cases ha),fun i x h=>?_,fun i j y z v w c h1 h2 h3 h4 o1 o2=>?_⟩
 ·obtain ⟨v,e1,e2⟩:=gets r i x (at0 i x h);refine ⟨v,sv i v e1,fun ys hx=>?_,e2⟩;subst hx;obtain ⟨a,us,_,hn,ha,_⟩:=e2;rw [hn] at ha; cases ha
 ·obtain ⟨v',e1,e2⟩:=gets r i _ (at0 i _ h1);rw [sv i v' e1] at h3;cases h3;cases o1.new e2
theorem RE.out {P':List Addr} (k:Kp [] H P' H1) (s:aE H1 H') (r:RE O P' H1 H' x v):aE H H'/\RE O [] H H' (res x) v:=by
 have sH:aE H H':=fun b o e=>s b o (k.keep b o 0x4 e);have sub:∀a,a∈([]:List Addr)++O->a∈P'++O:=fun a ha=>K7 _ ha;refine ⟨sH,?_⟩;cases x with
 |d x=>exact Rp.kp (.sub sub) r
 |ob C fs=>exact CD.kp (.sub sub) r
 |fz kvs=>exact xK.kp (.sub sub) r
 |ex q=>exact r
 |tpo p xs q=>
  obtain ⟨t,a,ps,vs,qs,e,hz,ht,hP,ha,l1,l2,l3⟩:=r;have sb:∀b,b∈a::([]++O)->b∈P'++O:=fun b hb=>by
   rcases Lj.mp hb with z|z
   ·exact K8 _ (z▸hP)
   ·exact sub b z
  refine ⟨t,a,ps,vs,qs,e,fun h=>hz (sb t h),ht,?_,ha,l1.kp (.sub sb),l2.kp (.sub sb),l3.kp (.sub sb)⟩;rcases k.new a hP with z|z
  ·cases z
  ·exact z
 |nwt p xs q=>
  obtain ⟨t,a,ps,vs,qs,e,hz,ht,hn,ha,l1,l2,l3⟩:=r;have sb:∀b,b∈a::([]++O)->b∈a::(P'++O):=fun b hb=>by
   rcases Lj.mp hb with z|z
   ·exact z▸K5
   ·exact K3 _ (sub b z)
  refine ⟨t,a,ps,vs,qs,e,fun h=>hz (sb t h),ht,?_,ha,l1.kp (.sub sb),l2.kp (.sub sb),l3.kp (.sub sb)⟩;cases q:H a with
  |none=>rfl
  |some o=>rw [k.keep a o 0x4 q] at hn; cases hn
 |own xs=>
  obtain ⟨a,vs,e,hP,ha,l⟩:=r;refine ⟨a,vs,e,?_,ha,l.kp (.sub fun b hb=>?_)⟩
  ·rcases k.new a hP with z|z
   ·cases z
   ·exact z
  ·rcases Lj.mp hb with z|z
   ·exact K8 _ (z▸hP)
   ·exact sub b z
 |new xs=>
  obtain ⟨a,vs,e,hn,ha,l⟩:=r;refine ⟨a,vs,e,?_,ha,l.kp (.sub fun b hb=>?_)⟩
  ·cases q:H a with
   |none=>rfl
   |some o=>rw [k.keep a o 0x4 q] at hn; cases hn
  ·rcases Lj.mp hb with z|z
   ·exact z▸K5
   ·exact K3 _ (sub b z)
 |scr K ns=>
  obtain ⟨a,e,hz⟩:=r;exact ⟨a,e,hz.imp (fun z=>⟨fun h=>z.1 (sub a h),z.2⟩) fun z=>z⟩
section
variable {P:Program} {w:World} {K:Li} {mg:Str->Option Value} {base:Heap}
theorem lq {x qual:Str} {f:Addr} {fd:FuncData} {N ps:List Str} {k:Nat} {F:DS->M Out} (Fu:Fun K x qual st f fd) (S:FnScope N ps (ak st)) (hn:ps.length=n)
  (body:∀(LM:Value) (A:Around) (outer:List Env) (s:Shared) (H:Hp) (E:XK),Room k (A.deeper (envOfC qual (ak st) s.heap.objs.size f LM)) ->
   yy (eY tK P w K mg base N qual (ak st) f LM A outer s H E).nox E0 (dv st) F):FnOk P w K mg base tK (k+1) f fd ps (DP n (eT N F)):=by
 refine Fu.ok S (fun vs H Q E h=>h.1.trans hn.symm) fun LM A outer s H vs Q E hr MW=>⟨_,body LM A outer s H E hr,?_⟩;obtain ⟨_,O,xs,x,dom,rx,e,q⟩:=MW;rcases ax e with ⟨o,e1,e2⟩|⟨c,_,e2⟩
 ·refine ⟨O,[],m9 N xs,.ok o,RS.start dom rx,e1,?_⟩;cases o with
  |rt y=>
   cases e2;intro v H1 H' P' k' s' _ _ ry;obtain ⟨sH,ry'⟩:=ry.out k' s';exact q v H' sH ry'
  |nx δ=>
   cases e2;intro σ' H' P' k' _;exact q .non H' (fun b o e=>k'.keep b o 0x4 e) .none
  |bk δ=>cases e2
  |ct δ=>cases e2
 ·cases e2
end
section
variable {X:Cx} {E:XK} {o e:Expr} {fo fe:DS->M DV}
noncomputable def qb:List D->Option (List Bool)
 |[]=>some []
 |.bool b::r=>(qb r).map (b::·)
 |_::_=>none
theorem rN:∀{xs:List D} {bs:List Bool},qb xs=some bs->xs=bs.map PyData.bool
 |[],bs,h=>by cases h; rfl
 |x::r,bs,h=>by
  cases x with
  |bool b=>
   unfold qb at h;cases e:qb r with
   |none=>rw [e] at h; cases h
   |some cs=>rw [e] at h; cases h; rw [rN e]; rfl
  |_=>cases h
theorem zC (bs:List Bool):qb (bs.map PyData.bool)=some bs:=by
 induction bs with
 |nil=>rfl
 |cons b r ih=>rw [List.map_cons,qb,ih]; rfl
noncomputable def qB (xs:List DV):M DV:=match xs with
 |[x]=>bd (op (ma x)) fun ys=>bd (op (qb ys)) fun bs=>rt (.d (.bool (bs.all id)))
 |_=>none
theorem qi {Z:List Addr} {H:Hp}:∀{bs:List Bool} {vs:List V} {us:List Value},RpL Z H (bs.map PyData.bool) vs->aS vs us->us=bs.map Value.bool
 |[],_,_,.nil,.nil=>rfl
 |b::r,_,_,.cons p l,.cons q t=>by
  cases p;cases q;rw [List.map_cons,qi l t]
theorem zA (bs:List Bool):((List.range bs.length).all fun i=>(bs[i]?).getD true)=bs.all id:=by
 induction bs with
 |nil=>rfl
 |cons b r ih=>
  rw [List.length_cons,List.range_succ_eq_map,List.all_cons,List.all_map,List.all_cons];have:(r.all id)=((List.range r.length).all fun i=>(r[i]?).getD true):=ih.symm;rw [this];congr 1
theorem sr (hc:X.calm=true):dI X E (.builtin "all") qB:=fun pins s σ O P H₀ H xs vs us r Q I hd hs rx rv e q=>by
 unfold qB at e;split at e
 ·obtain ⟨ys,e1,e2⟩:=bu e;obtain ⟨bs,e3,e4⟩:=bu e2;cases e4;cases rx with
  |cons r1 rr=>
   cases rr;obtain ⟨a,ws,rfl,ha,l⟩:=r1.list e1;cases rv with
   |cons q1 q2=>
    cases q2;cases q1;have hys:=rN e3;subst hys;obtain ⟨D',ri,pl,hz⟩:=I.list (eN.of ha);have hits:=qi l ri;have LV:a<s.heap.objs.size:=by obtain ⟨_,e',_⟩:=pl.isList; exact Lc e'
    have ML:=pl.isList;refine call_all_walk (wpAny_pyIter_list ML ?_);refine ⟨s.heap.objs.size,[s.heap.objs.size,a],[s.heap.objs.size],D'.toArray.size,_,_,fun i=>(bs[i]?).getD true,rfl,Walks.list (A:=X.A.in1) (I.ok.hd hc) _ a (LA LV) D'.toArray,
     ⟨⟨_,LC _ rfl,rfl,rfl⟩,ML.push _⟩,fun i v s' Q' E' hP hQ=>?_,fun h' tk hk=>?_⟩
    ·have hv:(bs[i]?).map Value.bool=some v:=by
      have N5:D'.toArray[i]?=some v:=hP;rw [<-N5,hits]; simp
     cases eb:bs[i]? with
     |none=>rw [eb] at hv; cases hv
     |some b=>
      rw [eb] at hv;cases hv;simp only [eb,Option.getD_some] at hQ;exact wpAny_truthy_bool hQ
    ·have hn:D'.toArray.size=bs.length:=by rw [hits]; simp
     rw [hn,zA];refine ⟨.bl _,H,I.kept (t':=tk) fun b ob eb=>hk b ob (fun hm=>?_) (K6 _ eb),rfl,q _ H (aE.refl H) (.bool _)⟩;rw [Lm.mp hm] at eb;exact Nat.lt_irrefl _ (Lc eb)
 ·cases e
noncomputable def sV (x y:DV):M DV:=match ma x,nz y with
 |some xs,some d=>if d.depth<=60 then rt (.d (.int (xs.countP fun z=>PyData.eqv z d))) else none
 |_,_=>none
noncomputable def pA (fo fe:DS->M DV) (δ:DS):M DV:=bd (fo δ) fun x=>bd (op (ma x)) fun _=>bd (fe δ) fun y=>sV x y
def Ke (E:XK) (x:V) (vs:List V) (H:Hp) (Q:VK):Prop:=∃O P H₀ dx dy v r,vs=[v]/\RE O P H₀ H dx x/\RE O P H₀ H dy v/\sV dx dy=some r/\Fn E O P H₀ H Q r
theorem Ab (hu:X.A.units+64<cLine):JW X "list.count" (Ke E):=fun pins s σ H x xs v us Q I rx rs h=>by
 obtain ⟨O,P,H₀,dx,dy,w,r,rfl,r1,r2,e,q⟩:=h;obtain ⟨u,rfl,ru⟩:=pM rs;unfold sV at e;split at e
 ·rename_i ys d h1 h2;split at e
  ·rename_i NG;cases e;obtain ⟨a,ws,rfl,ha,l⟩:=r1.list h1;cases rx;obtain ⟨⟨as,ra⟩,la⟩:=r2.reads I ru h2;obtain ⟨D',ri,pl,hz⟩:=I.list (eN.of ha);obtain ⟨bs,rb⟩:=RpL.reads I l ri;obtain ⟨⟨cls,dd,data,sl⟩,ho,hc,n,hd⟩:=pl.isList;simp only at hc hd;subst hc hd;refine call_meets PySem.F.slot_list_count ⟨_,ho,rfl⟩ PySem.F.entry_list_count (PySem.F.args_list_count_2 _ _) (SeqAt.list_countAt a D'.toArray n dd sl u fun y=>PyData.eqv (SeqAt.readOf s.heap y) d)
    ⟨ho,SeqAt.items_eqAt (vs:=D'.toArray) rb ra l.lay la (by have:=Nat.min_le_right (PyData.depthAll ys) d.depth; lia),?_⟩
   have ON:D'.toArray.toList.countP (fun y=>PyData.eqv (SeqAt.readOf s.heap y) d)=ys.countP fun z=>PyData.eqv z d:=by
    rw [<-SeqAt.readsAll_map ys _ _ l.lay rb,List.countP_map]; rfl
   rw [ON];exact ⟨.int _,H,I.tok _,⟨_,rfl⟩,q _ H (aE.refl H) (.int _)⟩
  ·cases e
 ·cases e
theorem uV {apos G':Pos} (hu:X.A.units+64<cLine) (ho:PX X E o fo) (he:PX X E e fe)
  (L9:attributeBase o "count" X.env (eval o X.env)=eval o X.env:=by rfl)
  (Mq:((backTo G' (starEach [e] X.env)).all (fun x=>!x.1)&&(backToKw G' (keywordEach [] X.env)).all (fun x=>x.1.isSome)
   && decide ([e].length+([]:List Keyword).length+(if ([]:List Keyword).isEmpty then 0 else 1)<30))=true:=by rfl)
  (L6:(apos.endLine==G'.line)=true:=by rfl) (hs:starEach [e] X.env=(false,eval e X.env)::starEach [] X.env:=by rfl) (LX:(backTo G' (starEach [] X.env)).any (·.1)=false:=by rfl) :
  PX X E (.Call (.Attribute o "count" apos) [e] [] G') (pA fo fe):=
 PE.mono (ro PySem.F.plainAttrs_list PySem.F.slot_list_count PySem.F.type_list_count (Ab (E:=E) hu) ho (iO he jy hs) L9 Mq L6 hs LX) fun σ H Q q=>
  kG (g:=fun δ x=>bd (op (ma x)) fun _=>bd (fe δ) fun y=>sV x y) q fun O P δ x r v H1 rs LK s1 rx e q=>by
   obtain ⟨ys,h1,e⟩:=bu e;obtain ⟨a,ws,rfl,ha,_⟩:=rx.list h1;refine ⟨.inl ⟨rfl,_,eN.of ha⟩,?_⟩;rcases ax e with ⟨y,e1,e2⟩|⟨c,e1,e2⟩
   ·exact ⟨O,P,δ,.ok y,LK,e1,fun u H2 s2 ry=>⟨O,P,H,x,y,u,r,rfl,rx.on s2,ry.from s1,e2,q.on s2⟩⟩
   ·subst e2;exact ⟨O,P,δ,.error c,LK,e1,q⟩
end
open PySem.W (KasT kas_asc kas_desc kas_tail3 kas_descPart kas_count kas_place kas_bin kas_sort kas_rev)
noncomputable abbrev ll:=HT.lexLt
theorem eG:∀a:List Int,ll a a=false
 |[]=>rfl
 |x::r=>by
  show HT.lexLt (x::r) (x::r)=false;rw [HT.lexLt_cons,if_pos rfl];exact eG r
theorem jC:∀{a b:List Int},ll a b=false->ll b a=false->a=b
 |[],[],_,_=>rfl
 |[],_::_,h,_=>by cases h
 |_::_,[],_,h=>by cases h
 |x::xs,y::ys,h1,h2=>by
  have e1:HT.lexLt (x::xs) (y::ys)=false:=h1;have e2:HT.lexLt (y::ys) (x::xs)=false:=h2;rw [HT.lexLt_cons] at e1 e2;by_cases h:x=y
  ·subst h;rw [if_pos rfl] at e1 e2;rw [jC e1 e2]
  ·rw [if_neg h] at e1;rw [if_neg (Ne.symm h)] at e2;have:=of_decide_eq_false e1;have:=of_decide_eq_false e2;lia
theorem mj:∀{a b c:List Int},ll a b=true->ll b c=true->ll a c=true
 |[],[],_,h,_=>by cases h
 |[],_::_,[],_,h=>by cases h
 |[],_::_,_::_,_,_=>rfl
 |_::_,[],_,h,_=>by cases h
 |_::_,_::_,[],_,h=>by cases h
 |x::xs,y::ys,z::zs,h1,h2=>by
  have e1:HT.lexLt (x::xs) (y::ys)=true:=h1;have e2:HT.lexLt (y::ys) (z::zs)=true:=h2;show HT.lexLt (x::xs) (z::zs)=true;rw [HT.lexLt_cons] at e1 e2 ⊢;by_cases h:x=y
  ·subst h;rw [if_pos rfl] at e1;by_cases h':x=z
   ·subst h';rw [if_pos rfl] at e2 ⊢;exact mj e1 e2
   ·rw [if_neg h'] at e2 ⊢;exact e2
  ·rw [if_neg h] at e1;have l1:=of_decide_eq_true e1;by_cases h':y=z
   ·subst h';rw [if_neg h]; exact e1
   ·rw [if_neg h'] at e2;have l2:=of_decide_eq_true e2;rw [if_neg 0x1];exact Lz 0x1
variable {b:List Int}
theorem fF {a:List Int} (h:ll a b=true):ll b a=false:=by
 cases e:ll b a with
 |false=>rfl
 |true=>
  have:=mj h e;rw [eG] at this; cases this
theorem gq {a c:List Int} (h1:ll b a=false) (h2:ll c b=false):ll c a=false:=by
 cases e:ll c a with
 |false=>rfl
 |true=>
  cases e2:ll a b with
  |true=>rw [mj e e2] at h2; cases h2
  |false=>
   have:=jC e2 h1;subst this;rw [e] at h2; cases h2
theorem AR {a c:List Int} (h1:ll a b=true) (h2:ll c b=false):ll a c=true:=by
 cases e2:ll b c with
 |true=>exact mj h1 e2
 |false=>
  have:=jC e2 h2;subst this; exact h1
section
variable (key:Nat->List Int)
variable {key}
end
open PySem.W (KasT kas_asc kas_desc kas_tail3 kas_descPart kas_count kas_place kas_bin kas_sort kas_rev kas_ask kas_item)
def zG {α:Type} (n:Nat) (R:α->Prop):KasT α->Prop
 |.ret a=>R a
 |.ask i j k=>i<n/\j<n/\∀b,zG n R (k b)
theorem zG.bind {α β:Type} {n:Nat} {R:α->Prop} {R':β->Prop} {f:α->KasT β}:∀{t:KasT α},zG n R t->(∀a,R a->zG n R' (f a))->zG n R' (t.bind f)
 |.ret a,h,hf=>hf a h
 |.ask i j k,h,hf=>⟨h.1,h.2.1,fun b=>zG.bind (h.2.2 b) hf⟩
def HD (n:Nat) (p:Array Nat):Prop:=1<=n/\∀x,x∈p->x<n
theorem HD.perm {p q:Array Nat} (h:HD n p) (hp:q.Perm p):HD n q:=⟨h.1,fun x hx=>h.2 x (hp.mem_iff.mp hx)⟩
section
variable {prog:Program} {w:World} {A:Around} {E:Value->Shared->Prop} {s:Shared}
end
noncomputable def kT:D->Option (List Int)
 |.tuple xs=>go xs
 |_=>none
where go:List D->Option (List Int)
 |[]=>some []
 |.int i::r=>(go r).map (i::·)
 |_::_=>none
theorem FN:∀{xs:List D} {ks:List Int},kT.go xs=some ks->xs=ks.map PyData.int
 |[],ks,h=>by cases h; rfl
 |x::r,ks,h=>by
  cases x with
  |int i=>
   unfold kT.go at h;cases e:kT.go r with
   |none=>rw [e] at h; cases h
   |some cs=>rw [e] at h; cases h; rw [FN e]; rfl
  |_=>cases h
theorem qh {ks:List Int} (h:kT d=some ks):d=.tuple (ks.map PyData.int):=by
 unfold kT at h;split at h
 ·rw [FN h]
 ·cases h
theorem oi:∀(ks ms:List Int),cL true (ks.map PyData.int) (ms.map PyData.int)=some (ll ks ms)
 |[],[]=>rfl
 |[],_::_=>rfl
 |_::_,[]=>rfl
 |x::xs,y::ys=>by
  rw [List.map_cons,List.map_cons,cL];show (if (x==y)=true then _ else _)=some (HT.lexLt (x::xs) (y::ys));rw [HT.lexLt_cons];by_cases h:x=y
  ·subst h;rw [if_pos (beq_self_eq_true _),if_pos rfl];exact oi xs ys
  ·rw [if_neg (by simpa using h),if_neg h];rfl
theorem pI:∀(ks ms:List Int),PyData.eqvAll (ks.map PyData.int) (ms.map PyData.int)=decide (ks=ms)
 |[],[]=>rfl
 |[],_::_=>rfl
 |_::_,[]=>rfl
 |x::xs,y::ys=>by
  rw [List.map_cons,List.map_cons,PyData.eqvAll,pI xs ys];show ((x==y)&&decide (xs=ys))=_;by_cases h:x=y
  ·subst h; simp
  ·have:(x==y)=false:=by simpa using h
   rw [this]; simp [h]
noncomputable def ins (d:D):List D->List D
 |[]=>[d]
 |e::r=>if ll (kOf d) (kOf e)=true then d::e::r else e::ins d r
where kOf (d:D):List Int:=(kT d).getD []
noncomputable def DF:List D->List D
 |[]=>[]
 |d::r=>ins d (DF r)
noncomputable abbrev kO:=ins.kOf
theorem pC (d:D):∀xs:List D,(ins d xs).Perm (d::xs)
 |[]=>.refl _
 |e::r=>by
  unfold ins;split
  ·exact .refl _
  ·exact ((pC d r).cons e).trans (.swap d e r)
theorem jz:∀xs:List D,(DF xs).Perm xs
 |[]=>.refl _
 |d::r=>(pC d (DF r)).trans ((jz r).cons d)
def Ord (xs:List D):Prop:=xs.Pairwise fun a b=>ll (kO b) (kO a)=false
theorem xR (d:D):∀{xs:List D},Ord xs->Ord (ins d xs)
 |[],_=>by unfold ins Ord; simp
 |e::r,h=>by
  have h':=Lr.mp h;unfold ins;split
  ·rename_i c;refine Lr.mpr ⟨fun x hx=>?_,h⟩;rcases Lj.mp hx with q|q
   ·subst q; exact fF c
   ·exact gq (fF c) (h'.1 x q)
  ·rename_i c;refine Lr.mpr ⟨fun x hx=>?_,xR d h'.2⟩;rcases Lj.mp ((pC d r).mem_iff.mp hx) with q|q
   ·subst q; simpa using c
   ·exact h'.1 x q
theorem tX:∀xs:List D,Ord (DF xs)
 |[]=>List.Pairwise.nil
 |d::r=>xR d (tX r)
theorem yr:∀{xs ys:List D},xs.Perm ys->Ord xs->Ord ys->(∀x∈xs,(kT x).isSome)->xs=ys
 |[],ys,hp,_,_,_=>by rw [List.nil_perm.mp hp]
 |x::xs,[],hp,_,_,_=>by have:=hp.length_eq; simp at this
 |x::xs,y::ys,hp,h1,h2,hk=>by
  have p1:=Lr.mp h1;have p2:=Lr.mp h2;have exy:x=y:=by
   by_cases e:x=y
   ·exact e
   ·have hx:x∈ys:=by
     rcases Lj.mp (hp.mem_iff.mp K5) with q|q
     ·exact absurd q e
     ·exact q
    have hy:y∈xs:=by
     rcases Lj.mp (hp.mem_iff.mpr K5) with q|q
     ·exact absurd q.symm e
     ·exact q
    have a1:=p1.1 y hy;have a2:=p2.1 x hx;have ek:kO x=kO y:=jC a2 a1;obtain ⟨k1,e1⟩:=Lq.mp (hk x K5);obtain ⟨k2,e2⟩:=Lq.mp (hk y (K3 _ hy));have q1:kO x=k1:=by show (kT x).getD []=k1; rw [e1]; rfl
    have q2:kO y=k2:=by show (kT y).getD []=k2; rw [e2]; rfl
    rw [qh e1,qh e2,<-q1,<-q2,ek]
  subst exy;rw [yr (List.Perm.cons_inv hp) p1.2 p2.2 fun z hz=>hk z (K3 _ hz)]
noncomputable def sN (xs:List DV):M DV:=match xs with
 |[x]=>bd (op (ma x)) fun ys=>if ys.length<64/\ys.all (fun y=>(kT y).isSome&&decide ((kO y).length≠0))=true then rt (.new (DF ys)) else none
 |_=>none
theorem RpL.pick {Z:List Addr} {H:Hp} {ds:List D} {vs:List V} (l:RpL Z H ds vs):∀(is:List Nat),(∀i∈is,i<ds.length)->RpL Z H (is.map fun i=>ds.getD i .none) (is.map fun i=>vs.getD i .non)
 |[],_=>.nil
 |i::r,h=>by
  have hi:=h i K5;obtain ⟨v,e,rv⟩:=l.get (i:=i) (d:=ds[i]) (by simp [hi]);refine .cons ?_ (RpL.pick l r fun j hj=>h j (K3 _ hj));have e1:ds.getD i .none=ds[i]:=by simp [hi]
  have e2:vs.getD i .non=v:=by simp [List.getD_eq_getElem?_getD,e]
  show Rp Z H (ds.getD i .none) (vs.getD i .non);rw [e1,e2]; exact rv
theorem rf {vs:List V} {us:List Value} (r:aS vs us):∀(is:List Nat),(∀i∈is,i<vs.length)->aS (is.map fun i=>vs.getD i .non) (is.map fun i=>us.getD i Value.none)
 |[],_=>.nil
 |i::rs,h=>by
  have hi:=h i K5;obtain ⟨u,e,ru⟩:=r.get (i:=i) (x:=vs[i]) (by simp [hi]);refine .cons ?_ (rf r rs fun j hj=>h j (K3 _ hj));have e1:vs.getD i .non=vs[i]:=by simp [hi]
  have e2:us.getD i Value.none=u:=by simp [List.getD_eq_getElem?_getD,e]
  show bA (vs.getD i .non) (us.getD i Value.none);rw [e1,e2]; exact ru
theorem xg {h:Heap}:∀(vs:List Value),(∀v∈vs,∃b o D' n i t,v=.ref b/\h.get? b=some o/\o.cls=.type "tuple" /\ o.data=.seq D' n/\D'[0]?=some (.int i t))->∃fs,PySem.W.KatTups h vs fs/\fs.length=vs.length/\∀f∈fs,∃i t,f=Value.int i t
 |[],_=>⟨[],PySem.W.KatTups.nil,rfl,fun _ hf=>nomatch hf⟩
 |v::r,hv=>by
  obtain ⟨b,o,D',n,i,t,rfl,eo,ec,ed,e0⟩:=hv v K5;obtain ⟨fs,h1,h2,h3⟩:=xg r fun u hu=>hv u (K3 _ hu);refine ⟨.int i t::fs,PySem.W.KatTups.cons eo ec ed e0 h1,by simp [h2],fun f hf=>?_⟩;rcases Lj.mp hf with e|e
  ·exact ⟨i,t,e⟩
  ·exact h3 f e
section
variable {X:Cx} {E:XK}
theorem lj (d:α) (xs:List α):(List.range xs.length).map (fun i=>xs.getD i d)=xs:=by
 apply List.ext_getElem
 ·simp
 ·intro i h1 h2;simp at h1;simp [h1]
end
noncomputable def a9:=CK Aw Cv
noncomputable def jT:=CK G0 HJ
noncomputable def hW:=CK JP (gC true)
noncomputable def kg:=CK JL (gC false)
section
variable {X:Cx} {E:XK}
theorem bZ:gL X E (binaryOp .Add) a9:=Hu.or Ha
theorem jI:gL X E (binaryOp .Mult) jT:=Hi.or Hd
theorem kN (hu:X.A.units+64<cLine):gL X E (compareOp .Lt) hW:=IM.or (GD hu)
theorem fD (hu:X.A.units+64<cLine):gL X E (compareOp .LtE) kg:=IF.or (Hk hu)
end
@[simp] theorem cZ (i j:Int):a9 (.d (.int i)) (.d (.int j))=rt (.d (.int (i+j))):=rfl
@[simp] theorem pE (i j:Int):Aw (.d (.int i)) (.d (.int j))=rt (.d (.int (i+j))):=rfl
@[simp] theorem cM (i j:Int):gSub (.d (.int i)) (.d (.int j))=rt (.d (.int (i-j))):=rfl
@[simp] theorem sk (i j:Int):JP (.d (.int i)) (.d (.int j))=rt (.d (.bool (decide (i<j)))):=rfl
@[simp] theorem rX (i j:Int):JL (.d (.int i)) (.d (.int j))=rt (.d (.bool (decide (i<=j)))):=rfl
@[simp] theorem ka (i j:Int):wz (.d (.int i)) (.d (.int j))=rt (.d (.bool (decide (j<i)))):=rfl
@[simp] theorem iL (i j:Int):CF (.d (.int i)) (.d (.int j))=rt (.d (.bool (decide (j<=i)))):=rfl
@[simp] theorem fH (i j:Int):hW (.d (.int i)) (.d (.int j))=rt (.d (.bool (decide (i<j)))):=rfl
@[simp] theorem g7 (i j:Int):kg (.d (.int i)) (.d (.int j))=rt (.d (.bool (decide (i<=j)))):=rfl
variable {j:Int}
theorem fQ {i:Int} (h:0<j):kl (.d (.int i)) (.d (.int j))=rt (.d (.int (i % j))):=by
 unfold kl gI Hq;simp [h]
theorem vj {i:Int} (h:0<j) (h':j<1073741824):Ai (.d (.int i)) (.d (.int j))=rt (.d (.int (i / j))):=by
 unfold Ai gI GX;simp [h,h']
theorem gG {i:Int} (h:vR i j=true):jT (.d (.int i)) (.d (.int j))=rt (.d (.int (i*j))):=by
 unfold jT CK G0 gI;simp [h,rt]
theorem eA:bootBuiltins "len" = some (.builtin "len"):=by decide +kernel
theorem sI:bootBuiltins "all" = some (.builtin "all"):=by decide +kernel
theorem Cp:bootBuiltins "min" = some (.builtin "min"):=by decide +kernel
theorem mS:bootBuiltins "sorted" = some (.builtin "sorted"):=by decide +kernel
theorem qD:bootBuiltins "isinstance" = some (.builtin "isinstance"):=by decide +kernel
theorem B0:bootBuiltins "int" = some (.type "int"):=by decide +kernel
theorem Ex:bootBuiltins "bool" = some (.type "bool"):=by decide +kernel
theorem oj:bootBuiltins "list" = some (.type "list"):=by decide +kernel
theorem oK:bootBuiltins "tuple" = some (.type "tuple"):=by decide +kernel
structure Has (P:Program) (w:World) (K:Li) (mg:Str->Option Value) (base:Heap) (k:Nat) (x:Str) (n:Nat) (fm:List DV->M DV):Prop where
 ex:∃fn fd ps,FnOk P w K mg base tK k fn fd ps (DP n fm)/\mg x=some (.ref fn)/\PySem.W.keepIn K (.ref fn)=true/\f6 K fd ps []
section
variable {X:Cx} {E:XK} {e:Expr} {es:List Expr} {pos p:Pos} {fa:DS->M DV} {fr:DS->M (List DV)}
theorem aN {k:Nat} {x:Str} {fm:List DV->M DV} (F:Has X.prog X.w X.K X.mg X.base k x n fm) (hr:Room k X.A) (ha:t6 X E (e::es) fr) (hg:Gl X x:=by rfl) (Mv:(x==("__debug__" : Str))=false:=by decide)
  (he:starEach (e::es) X.env=(false,eval e X.env)::starEach es X.env:=by rfl) (Me:(backTo pos (starEach es X.env)).any (·.1)=false:=by rfl) :
  PX X E (.Call (.Name x p) (e::es) [] pos) (aR (aw n fm) fr):=by
 obtain ⟨fn,fd,ps,h1,h2,h3,h4⟩:=F.ex;exact DU h1 hr h2 h3 h4 ha hg Mv he Me
noncomputable def GR:D->Option String
 |.none=>some "NoneType"
 |.bool _=>some "bool"
 |.int _=>some "int"
 |.str _=>some "str"
 |.tuple _=>some "tuple"
 |.list _=>some "list"
 |_=>none
noncomputable def HS (T t:String):Bool:=if T = "int" then t = "int" || t = "bool" else t=T
noncomputable def Js (t T:String):Option Bool:=if (Value.type t==Value.type T)=true then some true else if PySem.W.kitMeta T=true then (fastBuiltinMro t).map (·.contains (.type T)) else none
theorem EX (K:Li) (t T:String):PySem.W.kitOne K (.type t) (.type T)=Js t T:=rfl
noncomputable def JT:List String:=["NoneType", "bool", "int", "str", "tuple", "list"]
theorem Eg:∀T∈["int", "bool", "str", "tuple", "list"],∀t∈JT,Js t T=some (HS T t):=by decide +kernel
theorem GN {t:String} (h:GR d=some t):t∈JT:=by
 cases d <;> simp only [GR] at h <;> first|(cases h; decide)|cases h
noncomputable def Gk (T:String) (fa:DS->M DV) (δ:DS):M DV:=bd (fa δ) fun x=>bd (op ((nz x).bind GR)) fun t=>rt (.d (.bool (HS T t)))
theorem HA {t:String} (r:Rp Z H d v) (h:GR d=some t):TyOf K H v (.type t):=by
 cases r with
 |none=>cases h; exact .non
 |bool b=>cases h; exact .bl b
 |int i=>cases h; exact .int i
 |str x _=>cases h; exact .str x
 |tup _ ha _=>cases h; exact .tup ha
 |lst _ ha _=>cases h; exact .lst ha
theorem RE.ty {t:String} (r:RE O P H₀ H x v) (h:(nz x).bind GR=some t):TyOf K H v (.type t):=by
 cases x with
 |d y=>exact HA (show Rp (P++O) H y v from r) h
 |ob C fs=>cases h
 |fz kvs=>cases h
 |ex q=>cases h
 |tpo p xs q=>cases h
 |nwt p xs q=>cases h
 |own xs=>
  obtain ⟨a,vs,rfl,_,ha,_⟩:=r;cases h; exact .lst ha
 |new xs=>
  obtain ⟨a,vs,rfl,_,ha,_⟩:=r;cases h; exact .lst ha
 |scr K ns=>cases h
theorem yh {T:String} {y:Str} {p2:Pos} (hT:T∈["int", "bool", "str", "tuple", "list"]) (hm:X.mg "isinstance" = none) (hmy:X.mg y=none) (hv:bootBuiltins y=some (.type T)) (ha:PX X E e fa) (hg:Gl X "isinstance" :=by rfl) (hgy:Gl X y:=by rfl) (hn:y ≠ "__name__" :=by decide) (Mv:(y==("__debug__" : Str))=false:=by decide)
  (he:starEach [e,.Name y p2] X.env=(false,eval e X.env)::starEach [.Name y p2] X.env:=by rfl) (Me:(backTo pos (starEach [.Name y p2] X.env)).any (·.1)=false:=by rfl):PX X E (.Call (.Name "isinstance" p) [e,.Name y p2] [] pos) (Gk T fa):=by
 intro pins s σ H Q I h;refine wpAny_Call_Name_kw (kM I hg hm qD ?_);refine PyProof.Rows.callWith_builtin1 (PyProof.Rows.spliced_more (bX (ha pins s σ H (fun v H1=>∃t,TyOf X.K H1 v (.type t)/\t∈JT/\Q (.bl (HS T t)) H1) I ?_) fun u s1 ⟨v,H1,I1,r1,t,ty,MK,q1⟩=>PyProof.Rows.spliced_more (kM I1 hgy hmy hv ?_ hn Mv)) he) he Me
 ·exact kG (g:=fun _ x=>bd (op ((nz x).bind GR)) fun t=>rt (.d (.bool (HS T t)))) h fun O P δ x r v H1 rs LK s1 rx e' q'=>by
   obtain ⟨t,e1,e2⟩:=bu e';cases e2;refine ⟨t,rx.ty e1,?_,q' _ H1 (aE.refl H1) (.bool _)⟩;obtain ⟨d,_,hd⟩:=Option.bind_eq_some_iff.mp e1;exact GN hd
 ·exact PyProof.Rows.spliced_none (yU I1 r1 ty (b:=HS T t) (by rw [EX]; exact Eg T hT t MK) fun tk=>⟨.bl _,H1,I1.tok tk,rfl,q1⟩)
end
structure CompSc (sc:Scope) (N:List Str) (k:Nat) (js:List Nat) (N':List Str) (scope:Scope):Prop where
 kind:scope.kind=.function
 nocell:∀y∈scope.names,y.2≠.cell
 loc:∀y∈scope.names,y.2=.local->scope.names.lookup y.1=some .local
 free:∀y∈scope.names,y.2=.free->sc.names.lookup y.1=some .cell\/sc.names.lookup y.1=some .free
 len:N'.length=k+js.length
 at':((List.range js.length).all fun i=>match js[i]?,N'[k+i]? with
  |some j,some x=>decide (N[j]?=some x/\(sc.names.lookup x=some .cell\/sc.names.lookup x=some .free)/\scope.names.lookup x=some .free)
  |_,_=>false)=true
variable {N:List Str} {k:Nat} {scope:Scope}
theorem CompSc.fit {js:List Nat} {N':List Str} {sc:Scope} (S:CompSc sc N k js N' scope) (h1:X.env.scope=sc:=by rfl) (h2:X.N=N:=by rfl):CompFit X k js N' scope:=by
 subst h1 h2;refine ⟨S.kind,S.nocell,S.loc,S.free,S.len,fun i x h hi=>?_⟩;have LV:i<N'.length:=(Lp.mp h).1;rw [S.len] at LV;have q:=List.all_eq_true.mp S.at' (i-k) (Ln.mpr 0x1);have e:k+(i-k)=i:=by lia
 rw [e,h] at q;cases ej:js[i-k]? with
 |none=>rw [ej] at q; cases q
 |some j=>
  rw [ej] at q;obtain ⟨a,b,c⟩:=of_decide_eq_true q;exact ⟨j,rfl,a,b,c⟩
theorem a5 {js:List Nat} (hi:i<k) (δ:DS) (d:D) (δ1:DS) (h:ar i d (cK k js δ)=some δ1):Sub (cK k js δ) δ1:=by
 cases h;refine Dv (.inl ?_);unfold cK;rw [List.getElem?_append_left (by simpa using hi),List.getElem?_replicate,if_pos hi]
theorem Has.mono {P:Program} {w:World} {K:Li} {mg:Str->Option Value} {base:Heap} {j k:Nat} {x:Str} {n:Nat} {fm:List DV->M DV} (h:Has P w K mg base j x n fm) (hj:j<=k):Has P w K mg base k x n fm:=by
 obtain ⟨fn,fd,ps,h1,h2,h3,h4⟩:=h.ex;exact ⟨fn,fd,ps,h1.mono hj,h2,h3,h4⟩
def Df (K:Li) (mg:Str->Option Value) (x:Str) (st:Stmt) (ps:List Str):Prop:=∃f fd,Fun K x x st f fd/\mg x=some (.ref f)/\f6 K fd ps []
variable {mg:Str->Option Value} {base:Heap} {ps:List Str} {fm:List DV->M DV}
theorem Df.has {P:Program} {x:Str} (D:Df K mg x st ps)
  (h:∀f fd,Fun K x x st f fd->FnOk P w K mg base tK k f fd ps (DP n fm)):Has P w K mg base k x n fm:=by
 obtain ⟨f,fd,Fu,hm,hb⟩:=D;exact ⟨f,fd,ps,h f fd Fu,hm,Fu.kp,hb⟩
variable {A:Around}
theorem dA (hr:Room k A):A.units+64<cLine:=by
 have:=hr.un;lia
theorem je {x:Str} {i:Int} {pos:Pos} (hm:∃t,X.mg x=some (.int i t)) (hg:Gl X x:=by rfl) (hd:(x==("__debug__" : Str))=false:=by decide):PX X E (.Name x pos) (eC (.int i)):=by
 obtain ⟨t,h⟩:=hm;exact EL hg h hd
theorem bU.some {P:Program} {w:World} {H:Hp} {h:Heap} {a:Addr} {o:HO} (x:bU P w H h a o):∃u,h.get? a=some u:=by
 cases o with
 |lst xs=>obtain ⟨_,_,_,_,e⟩:=x; exact ⟨_,e⟩
 |tup xs=>obtain ⟨_,_,_,u,e,_⟩:=x; exact ⟨u,e⟩
 |dK kvs=>obtain ⟨_,_,_,_,u,_,_,e,_⟩:=x; exact ⟨u,e⟩
 |dT kvs=>obtain ⟨_,_,_,_,u,_,_,e,_⟩:=x; exact ⟨u,e⟩
 |set S n=>obtain ⟨u,_,_,_,e,_⟩:=x; exact ⟨u,e⟩
 |ins C dx fs=>obtain ⟨_,_,_,e,_⟩:=x; exact ⟨_,e⟩
 |own y=>exact x
 |xd fs=>obtain ⟨_,⟨u,_,_,e,_⟩,_⟩:=x; exact ⟨u,e⟩
 |rng lo hi=>obtain ⟨_,_,_,e⟩:=x; exact ⟨_,e⟩
 |frz ob u=>exact ⟨ob,x.1⟩
 |tbl ps=>exact ⟨_,x⟩
 |met f y=>exact ⟨_,x⟩
 |ext φ=>exact x.2.1
structure Fly (P:Program) (w:World) (l:List Env) (s:Shared) (H:Hp) (cls:Value) (x:Addr) (H':Hp) (B:Heap) (a0:Value) (s':Shared):Prop where
 os:s'.os=s.os
 bare:AllBare s'.gens
 fly:Heap.FlyingW B l x cls a0 s'.heap
 trk:∀b u,H' b=some u->∃o,B.get? b=some o
 old:∀b o,s.heap.get? b=some o->H b=none->b∉ix l->B.get? b=some o
 all:∀b o,s.heap.get? b=some o->b∉ix l->∃o',B.get? b=some o'
 un:Un (ix l) [] H H' s.heap s'.heap
 hok:kr P w H' s'.heap
def vP (P:Program) (w:World):zE:=fun l H s E e s'=>∃x cls dx H' B a0,e=.ref x/\Fly P w l s H cls x H' B a0 s'/\E cls dx H'
theorem Fly.go {P:Program} {l:List Env} {s':Shared} {cls a0:Value} {x:Addr} {B:Heap} (F:Fly P w l s H cls x H' B a0 s') (f:Heap.FlyingW B l x cls a0 h') (u:s'.heap.UpToSlots h'):Fly P w l s H cls x H' B a0 { s' with heap:=h' }:=by
 have fr:∀b,b∈ix l->∀o,s'.heap.get? b=some o->∃sl,h'.get? b=some { o with slots:=sl }:=fun b hb o e=>by
  obtain ⟨_,o',e',hd⟩:=F.fly.2.2.1.mem hb;rw [e] at e'; cases e'
  exact u b o e hd
 refine ⟨F.os,F.bare,f,F.trk,F.old,F.all,⟨fun b o e n hb _=>f.1 b o (F.old b o e n hb),fun b o e n hb hx=>?_,F.un.free,fun b o e hx=>?_,F.un.tups,F.un.frzs,F.un.tbls⟩,fun b v q=>(F.hok b v q).stay (fun c o hc e=>?_) (fun _ q=>q) fun _ _ q=>q⟩
 ·obtain ⟨sl,e1⟩:=F.un.slot b o e n hb hx;obtain ⟨sl',e2⟩:=fr b hb _ e1;exact ⟨sl',e2⟩
 ·obtain ⟨o',e1⟩:=F.un.there b o e hx;by_cases hb:b∈ix l
  ·obtain ⟨sl,e2⟩:=fr b hb o' e1;exact ⟨_,e2⟩
  ·obtain ⟨o2,e2⟩:=F.all b o e hb;exact ⟨o2,f.1 b o2 e2⟩
 ·have ht:∃v',H' c=some v':=by
   rcases hc with z|z
   ·exact ⟨v,z▸q⟩
   ·exact ⟨_,z⟩
  obtain ⟨v',NI⟩:=ht;obtain ⟨o2,e2⟩:=F.trk c v' NI;have:=F.fly.1 c o2 e2;rw [e] at this; cases this
  exact f.1 c _ e2
variable {qual:Str} {f:Addr} {cd:Value} {outer:List Env} {s0:Shared} {H0:Hp}
theorem xh {P:Program} {pins:List (Addr×Obj)} {h1:Heap} {e:Addr} {cls:Value} {vs:List Value}
  (I:Inv (eY (vP P w) P w K mg base N qual scope f cd A outer s0 H0 E) pins σ H s) (hx:Heap.MadeExcOf s.heap h1 e cls vs) (hE:E cls none H):(eY (vP P w) P w K mg base N qual scope f cd A outer s0 H0 E).xe (.ref e) { s with heap:=h1 }:=by
 have hl:∀b,b∈ix (envOfC qual scope s0.heap.objs.size f cd::outer)↔b=s0.heap.objs.size\/b∈ix outer:=fun b=>by
  show b∈s0.heap.objs.size::ix outer↔_;exact List.mem_cons
 have nL:∀b o,s0.heap.get? b=some o->b≠s0.heap.objs.size:=fun b o q=>LA (Lc q);have Nl:=I.stack;have ff:=PySem.W.funFrames_hide (as:=ix (envOfC qual scope s0.heap.objs.size f cd::outer)) Nl fun en he a ha=>List.mem_filterMap.mpr ⟨en,he,ha⟩;refine wpAny_leaves_madeW (base:=PySem.W.hideAll s.heap (ix (envOfC qual scope s0.heap.objs.size f cd::outer))) (h:=s.heap) I.ok.frames rfl (fun b o q=>PySem.W.of_hideAll _ q) ff hx fun h2 t x1 x2 x3 x4=>?_;have kB:∀b o,s.heap.get? b=some o->b∉ix (envOfC qual scope s0.heap.objs.size f cd::outer)->h2.get? b=some o:=fun b o q n=>x1.1 b o (PySem.W.hideAll_get _ q n);have trk:∀b u,H b=some u->b∉ix (envOfC qual scope s0.heap.objs.size f cd::outer):=fun b u q hb=>by
  have:=I.stkFree b hb;rw [q] at this; cases this
 have fr:∀b o,b∈ix outer->s.heap.get? b=some o->∃sl,h2.get? b=some { o with slots:=sl }:=fun b o hb q=>by
  obtain ⟨_,o',e',hd⟩:=I.funs.mem hb;rw [q] at e'; cases e'
  exact x4 b o (hx.keeps b o q) hd
 have out:∀b o,s0.heap.get? b=some o->b∉ix outer->b∉ix (envOfC qual scope s0.heap.objs.size f cd::outer):=fun b o q n z=>by
  rcases (hl b).mp z with z|z
  ·exact nL b o q z
  ·exact n z
 refine ⟨e,cls,none,H,_,_,rfl,⟨I.os,I.bare,x1,fun b u q=>?_,fun b o q n hb=>?_,fun b o q hb=>?_,⟨fun b o q n hb _=>?_,fun b o q n hb _=>?_,fun b o q n _=>I.base.free b o q n (by simp [eY]),fun b o q _=>?_,I.base.tups,I.base.frzs,I.base.tbls⟩,fun b u q=>(I.hok b u q).stay (fun c o hc r=>?_) (fun _ q=>q) fun _ _ q=>q⟩,hE⟩
 ·obtain ⟨o,r⟩:=bU.some (I.hok b u q);exact ⟨o,PySem.W.hideAll_get _ r (trk b u q)⟩
 ·exact PySem.W.hideAll_get _ (I.base.keep b o q n hb (by simp [eY])) (out b o q hb)
 ·obtain ⟨o',r⟩:=I.base.there b o q (by simp [eY]);exact ⟨o',PySem.W.hideAll_get _ r (out b o q hb)⟩
 ·exact kB b o (I.base.keep b o q n hb (by simp [eY])) (out b o q hb)
 ·obtain ⟨sl,r⟩:=I.base.slot b o q n hb (by simp [eY]);obtain ⟨sl',r'⟩:=fr b _ hb r;exact ⟨sl',r'⟩
 ·obtain ⟨o',r⟩:=I.base.there b o q (by simp [eY]);by_cases hb:b∈ix outer
  ·obtain ⟨sl,r'⟩:=fr b o' hb r;exact ⟨_,r'⟩
  ·exact ⟨o',kB b o' r (out b o q hb)⟩
 ·have ht:∃v,H c=some v:=by
   rcases hc with z|z
   ·exact ⟨u,z▸q⟩
   ·exact ⟨_,z⟩
  obtain ⟨v,hv⟩:=ht;exact kB c o r (trk c v hv)
noncomputable def KO:List Value:=[.type "ValueError",.type "Exception",.type "BaseException",.type "object"]
structure Xc (K:Li) (mg:Str->Option Value) (x:Str) (C:Addr):Prop where
 bound:mg x=some (.ref C)
 ex:PySem.W.excIn K C KO "ValueError.__new__" = true
theorem EF {C:Addr} {bmB:List Value} {nw:String} (X:K.In h) (q:PySem.W.excIn K C bmB nw=true) :
  ∃bm N nm qn bs hdct sn sub ab col dd k0 k1 k2 k3 k5 mN,h.get? C=some (excClassObj nm qn C N bs bm hdct sn sub ab col dd k0 k1 k2 k3 k5 nw)/\h.Ns N mN/\mN "__init__" = none/\OwnTail h bmB bm:=by
 unfold PySem.W.excIn at q;cases ho:K.lookup C with
 |none=>rw [ho] at q; cases q
 |some ob=>
  rw [ho] at q;split at q
  ·rename_i dd cd sl eo;cases eo;split at q
   ·rename_i C' bm k0 k1 k2 k3 n k5 hm hs;rw [Bool.and_eq_true,Bool.and_eq_true,Bool.and_eq_true,Bool.and_eq_true,Bool.and_eq_true] at q;obtain ⟨⟨⟨⟨⟨q1,q2⟩,q3⟩,q4⟩,q5⟩,q6⟩:=q;have q1:=beq_iff_eq.mp q1;have q2:=beq_iff_eq.mp q2;have q7:PySem.W.nsIn K cd.ns "__init__" = some none:=beq_iff_eq.mp q6;obtain ⟨nm,bs,mro,ns,qn,hd,sn,sub,ab,col,del⟩:=cd;simp only at hm q3 q5 q7;have q3:del=false:=by simpa using q3
    subst q1 q2 hm q3;have hsl:sl=#[k0,k1,k2,k3,some (.builtin n),k5]:=Array.toList_inj.mp (by rw [hs]);subst hsl;refine ⟨bm,ns,nm,qn,bs,hd,sn,sub,ab,col,dd,k0,k1,k2,k3,k5,h.nsMap ns,?_,?_,?_,?_⟩
    ·exact X _ _ ho
    ·exact .of_isNs (PySem.W.isNs_of_in X q5)
    ·exact PySem.W.nsMap_none_of_in X q5 q7
    ·exact PySem.W.tail_of_in X q4
   ·cases q
  ·cases q
section
variable {X:Cx} {E:XK} {x:Str} {C:Addr} {np G' pos p2:Pos} {z:Str} {j:Nat}
def yc (X:Cx) (E:XK):Prop:=X.A.handled=none/\∀(pins:List (Addr×Obj)) (σ:St) (H:Hp) (s:Shared) (h1:Heap) (e:Addr) (cls:Value) (vs:List Value),Inv X pins σ H s->Heap.MadeExcOf s.heap h1 e cls vs->E cls none H->X.xe (.ref e) { s with heap:=h1 }
theorem oO (mk:yc X E) (O:Xc X.K X.mg x C) (hg:Gl X x:=by rfl) (hd:(x==("__debug__" : Str))=false:=by decide) {jj} :
  PS X (.Raise (some (.Call (.Name x np) [.Constant (.str z) jj p2] [] G')) none pos) (fun _ _ H=>E (.ref C) none H):=by
 intro pins s σ H D I h;obtain ⟨bm,N,nm,q,bs,hdct,sn,sub,ab,col,dd,k0,k1,k2,k3,k5,mN,hC,hN,hni,T⟩:=EF I.ok.mod.kin O.ex;refine wpAny_Raise_call_subT (C:=C) (nm:=nm) (q:=q) (N:=N) (bs:=bs) (bm:=bm) (hdct:=hdct) (sn:=sn) (sub:=sub) (ab:=ab) (col:=col) (dd:=dd) (k0:=k0) (k1:=k1) (k2:=k2) (k3:=k3) (k5:=k5) (mN:=mN)
  PySem.F.excBase_ValueError (T.hasType PySem.F.excBase_ValueError.hasBase) mk.1 rfl hni (om I hg O.bound ⟨rfl,?_⟩ hd)
 have Nl:starEach [(.Constant (.str z) jj p2:Expr)] X.env=(false,eval (.Constant (.str z) jj p2) X.env)::starEach [] X.env:=rfl;rw [Nl];refine Calls.evalArgs_plain ?_;refine Calls.spliced_cons (bX (Ae (pos:=p2) (j:=jj) (x:=z) pins s σ H (fun _ H1=>H1=H) I rfl) fun u s1 ⟨v,H1,I1,_,e1⟩=>Calls.spliced_nil ?_);subst e1;refine ⟨rfl,by show 1<=sizeLine; decide,I1.bk _ _ hC,hN.keeps I1.bk,T.keeps I1.bk,fun h1 e hm=>mk.2 pins σ H1 s1 h1 e _ _ I1 hm h⟩
end
open PySem.W (Looks)
section
variable {X:Cx} {pins pn:List (Addr×Obj)} {σ:St} {H:Hp} {s:Shared} {W:Value->Shared->Prop} {e:Addr}
end
section
variable {X:Cx} {E:XK} {body:List Stmt} {F:DS->M Out} {cn n:Str} {C:Addr} {i:Nat} {ex:Expr} {np hpos rpos pos:Pos} {k:Bool}
end
section
variable {X:Cx} {e C:Addr} {oe:Obj} {i:Nat} {n y:Str} {p p1 p2 pos:Pos} {c:Value}
theorem w9 {P:Program}:iM (vP P w) X E0:=fun _ _ _ _ _ _ _ ⟨_,_,_,_,_,_,_,_,h⟩=>h.elim
end
def Kr (C CB:Addr) (good:Int->Int->Bool) (f1 f2:Str):Sp:=fun vs H Q E=>∃p dx m c,vs=[.ref p,.int m,.int c]/\H p=some (.ins C dx []) /\
 ∀H1,aE H H1->if good m c=true then Q .non (upd (upd H1 p (.ins C dx (f9 f1 (.int m) []))) p (.ins C dx (f9 f2 (.int c) (f9 f1 (.int m) [])))) else E (.ref CB) none H1
structure Hs (P:Program) (w:World) (K:Li) (mg:Str->Option Value) (base:Heap) (x:Str) (C CB:Addr) (good:Int->Int->Bool) (f1 f2:Str):Prop where
 ex:∃f fd ps,Mk K C f/\FnOk P w K mg base (vP P w) 1 f fd ps (Kr C CB good f1 f2)/\f6 K fd ps []/\mg x=some (.ref C)
noncomputable def JG (C CB:Addr) (good:Int->Int->Bool) (f1 f2:Str) (xs:List DV):M DV:=match xs with
 |[.d (.int m),.d (.int c)]=>if good m c=true then rt (.ob C [(f1,.int m),(f2,.int c)]) else some (.error (.ref CB))
 |_=>none
theorem FL {f1 f2:Str} (h:f1≠f2) (v u:V):f9 f2 u (f9 f1 v [])=[(f1,v),(f2,u)]:=by
 show (if f1=f2 then _ else _)=_;rw [if_neg h]; rfl
section
variable {X:Cx} {E:XK} {e:Expr} {es:List Expr} {pos p:Pos} {fr:DS->M (List DV)}
theorem DA {x:Str} {C CB:Addr} {good:Int->Int->Bool} {f1 f2:Str} (h:Hs X.prog X.w X.K X.mg X.base x C CB good f1 f2) (hf:f1≠f2) (hr:Room 2 X.A) (pass:iM (vP X.prog X.w) X E) (ha:t6 X E (e::es) fr) (hg:Gl X x:=by rfl) (Mv:(x==("__debug__" : Str))=false:=by decide)
  (he:starEach (e::es) X.env=(false,eval e X.env)::starEach es X.env:=by rfl) (Me:(backTo pos (starEach es X.env)).any (·.1)=false:=by rfl):PX X E (.Call (.Name x p) (e::es) [] pos) (aR (JG C CB good f1 f2) fr):=by
 obtain ⟨f,fd,ps,hM,hF,hb,hm⟩:=h.ex;refine PE.mono (yu hM hF hr hg hm hb .nil pass ha Mv he Me) fun σ H Q q=>lN (g:=fun _=>JG C CB good f1 f2) q fun O P δ xs r vs H1 rs LK s1 rx e q=>?_;unfold JG at e;split at e
 ·rename_i m c;cases rx with
  |cons r1 rr=>
   cases rr with
   |cons r2 rr=>
    cases rr;cases r1;cases r2;intro x dx nx ndx ne;refine ⟨x,dx,m,c,rfl,aM,fun H2 s2=>?_⟩;have sH:aE H1 H2:=fun b o q=>s2 b o (by rw [aD (bK q nx),aD (bK q ndx)]; exact q);split at e
    ·rename_i NJ;rw [if_pos NJ];cases e;refine ⟨rfl,q _ _ (fun b o q=>?_) ⟨x,dx,_,rfl,fun z=>?_,aM,?_⟩⟩
     ·rw [aD (bK q nx),aD (bK q nx)]; exact sH b o q
     ·obtain ⟨o,q⟩:=LK.dom x z;rw [nx] at q; cases q
     ·rw [FL hf];exact .cons ⟨rfl,.int m⟩ (.cons ⟨rfl,.int c⟩ .nil)
    ·rename_i NJ;rw [if_neg NJ];cases e;exact q none H2 sH
 ·cases e
end
theorem xt {P:Program} :
  iM (vP P w) (eY (vP P w) P w K mg base N qual scope f cd A outer s0 H0 E) E:=by
 intro pins σ H s e s' I cx;obtain ⟨x,cls,dx,H',B,a0,rfl,Fl,hE⟩:=cx;have hl:∀b,b∈ix (envOfC qual scope s0.heap.objs.size f cd::outer)↔b=s0.heap.objs.size\/b∈ix outer:=fun b=>by
  show b∈s0.heap.objs.size::ix outer↔_;exact List.mem_cons
 have out:∀b o,s0.heap.get? b=some o->b∉ix outer->b∉ix (envOfC qual scope s0.heap.objs.size f cd::outer):=fun b o q n z=>by
  rcases (hl b).mp z with z|z
  ·exact LA (Lc q) z
  ·exact n z
 have Fl:Fly P w (envOfC qual scope s0.heap.objs.size f cd::outer) s H cls x H' B a0 s':=Fl;refine wpAny_leaves_onW (L:=s0.heap.objs.size) I.ok.frames rfl Fl.fly fun h2 f2 u=>?_;have fr:∀b o,b∈ix outer->s'.heap.get? b=some o->∃sl,h2.get? b=some { o with slots:=sl }:=fun b o hb q=>by
  obtain ⟨_,o',e',hd⟩:=Fl.fly.2.2.1.mem (show b∈ix (envOfC qual scope s0.heap.objs.size f cd::outer) from (hl b).mpr (.inr hb));rw [q] at e'; cases e'
  exact u b o q hd
 have old:∀b o,s0.heap.get? b=some o->H0 b=none->b∉ix outer->B.get? b=some o:=fun b o q n hb=>
  Fl.old b o (I.base.keep b o q n hb (by simp [eY])) (I.base.free b o q n (by simp [eY])) (out b o q hb)
 have all:∀b o,s0.heap.get? b=some o->b∉ix outer->∃o',B.get? b=some o':=fun b o q hb=>by
  obtain ⟨o',r⟩:=I.base.there b o q (by simp [eY]);exact Fl.all b o' r (out b o q hb)
 refine ⟨x,cls,dx,H',B,a0,rfl,⟨Fl.os.trans I.os,Fl.bare,f2,Fl.trk,old,all,⟨fun b o q n hb _=>f2.1 b o (old b o q n hb),fun b o q n hb _=>?_,fun b o q n _=>?_,fun b o q _=>?_,fun b xs q=>Fl.un.tups b xs (I.base.tups b xs q),fun b o xs q=>Fl.un.frzs b o xs (I.base.frzs b o xs q),fun b ps q=>?_⟩,fun b v q=>(Fl.hok b v q).stay (fun c o hc r=>?_) (fun _ q=>q) fun _ _ q=>q⟩,hE⟩
 ·obtain ⟨sl,r⟩:=I.base.slot b o q n hb (by simp [eY]);obtain ⟨sl',r'⟩:=Fl.un.slot b _ r (I.base.free b o q n (by simp [eY])) ((hl b).mpr (.inr hb)) 0x4;obtain ⟨NM,r2⟩:=fr b _ hb r';exact ⟨NM,r2⟩
 ·obtain ⟨o',r⟩:=I.base.there b o q (by simp [eY]);exact Fl.un.free b o' r (I.base.free b o q n (by simp [eY])) 0x4
 ·obtain ⟨o',r⟩:=I.base.there b o q (by simp [eY]);by_cases hb:b∈ix outer
  ·obtain ⟨o2,r2⟩:=Fl.un.there b o' r 0x4;obtain ⟨sl,r3⟩:=fr b o2 hb r2;exact ⟨_,r3⟩
  ·obtain ⟨o2,r2⟩:=all b o q hb;exact ⟨o2,f2.1 b o2 r2⟩
 ·obtain ⟨m1,e1⟩:=I.base.tbls b ps q;obtain ⟨m2,e2⟩:=Fl.un.tbls b _ e1;exact ⟨m1++m2,by rw [e2,Array.append_assoc]⟩
 ·have ht:∃v',H' c=some v':=by
   rcases hc with z|z
   ·exact ⟨v,z▸q⟩
   ·exact ⟨_,z⟩
  obtain ⟨v',NI⟩:=ht;obtain ⟨o2,e2⟩:=Fl.trk c v' NI;have:=Fl.fly.1 c o2 e2;rw [r] at this; cases this
  exact f2.1 c _ e2
def Iv (n:Nat) (fm:List DV->M DV):Sp:=fun vs H Q E=>vs.length=n/\∃O xs r,(∀a,a∈O->∃o,H a=some o)/\lu O [] H H xs vs/\fm xs=some r/\Fn E O [] H H Q r
theorem Jy {P:Program} {x:Str} {fd:FuncData} {F:DS->M Out} (Fu:Fun K x qual st f fd) (S:FnScope N ps (ak st)) (hn:ps.length=n)
  (body:∀(LM:Value) (A:Around) (outer:List Env) (s:Shared) (H:Hp) (E:XK),Room k (A.deeper (envOfC qual (ak st) s.heap.objs.size f LM)) ->
   yy (eY (vP P w) P w K mg base N qual (ak st) f LM A outer s H E) E (dv st) F):FnOk P w K mg base (vP P w) (k+1) f fd ps (Iv n (eT N F)):=by
 obtain ⟨oc,od,kV,doc,pm,an,LM,ct,NB,rfl,lk,Ng⟩:=Fu.ex;refine Ad lk Ng S (fun vs H Q E h=>h.1.trans hn.symm) fun A outer s H vs Q E hr MW=>⟨_,body LM A outer s H E hr,?_⟩;obtain ⟨_,O,xs,r,dom,rx,e,q⟩:=MW;rcases ax e with ⟨o,e1,e2⟩|⟨c,e1,e2⟩
 ·refine ⟨O,[],m9 N xs,.ok o,RS.start dom rx,e1,?_⟩;cases o with
  |rt y=>
   cases e2;intro v H1 H' P' k' s' _ _ ry;obtain ⟨sH,ry'⟩:=ry.out k' s';exact q v H' sH ry'
  |nx δ=>
   cases e2;intro σ' H' P' k' _;exact q .non H' (fun b o e=>k'.keep b o 0x4 e) .none
  |bk δ=>cases e2
  |ct δ=>cases e2
 ·subst e2;exact ⟨O,[],m9 N xs,.error c,RS.start dom rx,e1,fun dx H' P' k'=>q dx H' fun b o e=>k'.keep b o 0x4 e⟩
structure HasX (P:Program) (w:World) (K:Li) (mg:Str->Option Value) (base:Heap) (k:Nat) (x:Str) (n:Nat) (fm:List DV->M DV):Prop where
 ex:∃fn fd ps,FnOk P w K mg base (vP P w) k fn fd ps (Iv n fm)/\mg x=some (.ref fn)/\PySem.W.keepIn K (.ref fn)=true/\f6 K fd ps []
theorem HasX.mono {P:Program} {w:World} {K:Li} {mg:Str->Option Value} {base:Heap} {j k:Nat} {x:Str} {n:Nat} {fm:List DV->M DV} (h:HasX P w K mg base j x n fm) (hj:j<=k):HasX P w K mg base k x n fm:=by
 obtain ⟨fn,fd,ps,h1,h2,h3,h4⟩:=h.ex;exact ⟨fn,fd,ps,h1.mono hj,h2,h3,h4⟩
theorem Df.hasX {P:Program} {x:Str} (D:Df K mg x st ps)
  (h:∀f fd,Fun K x x st f fd->FnOk P w K mg base (vP P w) k f fd ps (Iv n fm)):HasX P w K mg base k x n fm:=by
 obtain ⟨f,fd,Fu,hm,hb⟩:=D;exact ⟨f,fd,ps,h f fd Fu,hm,Fu.kp,hb⟩
noncomputable def jH (n:Nat) (fm:List DV->M DV) (xs:List DV):M DV:=bd (op (args xs)) fun ys=>if ys.length=n then fm ys else none
section
variable {X:Cx} {E:XK} {e:Expr} {es:List Expr} {pos p np G' p2:Pos} {fr:DS->M (List DV)} {x:Str} {C:Addr} {z:Str} {jj:Nat}
theorem nZ (F:HasX X.prog X.w X.K X.mg X.base k x n fm) (hr:Room k X.A) (pass:iM (vP X.prog X.w) X E) (ha:t6 X E (e::es) fr) (hg:Gl X x:=by rfl) (Mv:(x==("__debug__" : Str))=false:=by decide)
  (he:starEach (e::es) X.env=(false,eval e X.env)::starEach es X.env:=by rfl) (Me:(backTo pos (starEach es X.env)).any (·.1)=false:=by rfl) :
  PX X E (.Call (.Name x p) (e::es) [] pos) (aR (jH n fm) fr):=by
 obtain ⟨fn,fd,ps,h1,h2,h3,h4⟩:=F.ex;refine PE.mono (yz h1 hr hg h2 h3 h4 .nil pass ha Mv he Me) fun σ H Q q=>lN (g:=fun _=>jH n fm) q fun O P δ xs r vs H1 rs LK s1 rx e q=>?_;obtain ⟨ys,e1,e2⟩:=bu e;split at e2
 ·rename_i hl;have ry:=lu.hand rs.dom s1 rx e1;refine ⟨?_,P++O,ys,r,fun a ha=>?_,?_,e2,?_⟩
  ·rw [List.append_nil,<-Paired.length ry]; exact hl
  ·obtain ⟨o,e'⟩:=rs.dom a ha;exact ⟨o,s1 a o e'⟩
  ·rw [List.append_nil]; exact ry
  ·cases r with
   |ok y=>exact fun v H' s2 rv=>q v H' s2 (rv.back s1)
   |error c=>exact q
 ·cases e2
theorem uP (mk:yc X E) (O:Xc X.K X.mg x C) (hg:Gl X x:=by rfl) (hd:(x==("__debug__" : Str))=false:=by decide) :
  vw X E (.Raise (some (.Call (.Name x np) [.Constant (.str z) jj p2] [] G')) none pos) (fun _=>some (.error (.ref C))):=PS.mono (oO mk O hg hd) fun T σ H q=>by
 obtain ⟨O',P,δ,r,rs,e,q⟩:=q;cases e;exact q none H P .refl
end
theorem u4 {P:Program} 
  (hr:Room k (A.deeper (envOfC qual scope s0.heap.objs.size f cd))):yc (eY (vP P w) P w K mg base N qual scope f cd A outer s0 H0 E) E:=⟨hr.hd,fun _ _ _ _ _ _ _ _ I hm hE=>xh I hm hE⟩
open Builtin Builtin.ObjectAttr Builtin.Getset_descriptor
section
variable {prog:Program} {w:World} {A:Around} {E:Value->Shared->Prop} {s:Shared} {K:Li} {x D:Addr}
end
section
variable {X:Cx} {e C:Addr} {oe:Obj} {i:Nat} {n y:Str} {p p1 p2 pos:Pos} {c:Value} {b:Bool}
end
end L3
namespace L2
open PySem PySem.Spec PyProof.Rows
section
variable {X:Cx} {k:Nat} {js:List Nat} {N':List Str} {scope:Scope} {elt tg iter:Expr} {ifs:List Expr} {pos:Pos} {wi:TI} {g:TG} {tc:TT} {te:TE}
theorem Bc {use:Option (Value->Sem Unit)} {Q':Value->Shared->Prop} {ip:Pos} (S:CompFit X k js N' scope) (hc:X.calm=true) (hi:PI X tg iter wi)
  (hg:∀C s₂ H₂ fp,PG (aQ X N' scope C s₂ H₂ fp) tg g) (hf:∀C s₂ H₂ fp,PF (aQ X N' scope C s₂ H₂ fp) ifs tc) (he:∀C s₂ H₂ fp,PE (aQ X N' scope C s₂ H₂ fp) elt te)
  {pins:List (Addr×Obj)} {s:Shared} {σ:St} {H:Hp} {Q:VK} (I:Inv X pins σ H s) (h:xo wi k js g tc te σ H Q)
  (hend:∀(D C:Addr) (s4:Shared) (m:Str->Option Value),s4.heap.Ns C m->X.s₀.heap.objs.size<=C->C≠X.env.locals->(∀x c,X.env.cells.lookup x=some c->c≠C)->(∀p∈X.pn++pins,p.1≠C) ->
   (∀h',Heap.SameBut C s4.heap h'->∃H5,Inv X pins σ H5 { s4 with heap:=h' }/\H5 C=none/\Q (.ref D) H5)->compPost (model X.prog X.w) X.A X.xe use Q' (.ref D) C (.ok .next) s4)
  (hs:∀x,foldedSetIterable iter X.env x=pure x) :
  wpAny (model X.prog X.w) X.A (comprehension (.ListComp elt [⟨tg,iter,ifs,0⟩] scope pos) scope X.env ip (newList []) false (eval iter X.env) use) Q' X.xe s:=by
 refine wpAny_comprehension_free (use:=use) rfl hs (yE fun y hy hk=>I.ok.has y.1 (S.free y hy hk)) S.kind S.loc ?_;refine bX (hi pins s σ H _ I h) fun v s1 h1=>bX h1 fun itv s₂ h2=>?_;obtain ⟨it,fp,tn,J,H₂,rfl,I2,T,LP,f2,W,⟨m0,w0⟩,turn⟩:=h2;have N7:∀b∈fp,b<s₂.heap.objs.size:=fun b hb=>by obtain ⟨o,e,_⟩:=T.obj 0 _ LP b hb; exact Lc e
 refine wpAny_newObj_type (wpAny_newFunctionEnv S.nocell (by intro y hy; simp at hy) (fun h₁ Nk MT=>?_) S.kind);dsimp only at Nk MT ⊢;generalize hH2:s₂.heap.push { cls:=.type "list",dict:=none,data:=.seq ([]:List Value).toArray }=G at Nk MT ⊢;have hC:G.objs.size=s₂.heap.objs.size+1:=by rw [<-hH2,Heap.size_push]
 have N1:s₂.heap.objs.size≠G.objs.size:=by lia
 have MN:s₂.heap.objs.size<=G.objs.size:=by lia
 have old:∀b o,s₂.heap.get? b=some o->h₁.get? b=some o:=fun b o e=>MT.extBut b o (gT e MN) (K6 _ (hH2▸K6 _ e));have OE:h₁.get? s₂.heap.objs.size=some { cls:=.type "list",data:=.seq ([]:List Value).toArray }:=MT.extBut _ _ N1 (K6 _ (hH2▸LC _ rfl));have NX:∀b∈fp,lM X pins H₂ b/\b<s₂.heap.objs.size:=fun b hb=>⟨f2 b hb,N7 b hb⟩;have I0:∀tk,Inv (aQ X N' scope G.objs.size s₂ H₂ fp) [] (jA k js σ) H₂ { s₂ with heap:=h₁,toks:=tk }:=fun tk=>pF I2 S MN NX old Nk;generalize hD:s₂.heap.objs.size=D at *;have Nj:∀{H':Hp} {s':Shared} {σ':St} {pp:List (Addr×Obj)} {o:Obj},Inv (aQ X N' scope G.objs.size s₂ H₂ fp) (pp++[(D,o)]) σ' H' s'->H' D=none/\s'.heap.get? D=some o:=fun {H' s' σ' pp o} J=>by
  have q:=J.pin (D,o) (K7 _ (K7 _ (Lm.mpr rfl)));exact ⟨q.2.1,q.1⟩
 have OS:D∉ix X.stack:=fun z=>by
  obtain ⟨_,o,ho,_⟩:=I2.stack.mem z;exact gT ho (LF hD) rfl
 have Na:∀x c,(aQ X N' scope G.objs.size s₂ H₂ fp).env.cells.lookup x=some c->c≠D:=fun x c e z=>by
  obtain ⟨v,q⟩:=I2.cell x c (cb (fun d hd=>by simp at hd) e);exact dR q.lt (LF hD) z
 have Mx:∀{H':Hp} {pp:List (Addr×Obj)},(∀b∈fp,H' b=none)->(∀p∈pp,p.1=D)->∀b∈fp,lM (aQ X N' scope G.objs.size s₂ H₂ fp) pp H' b:=fun {H' pp} hn hp b hb=>by
  refine ⟨hn b hb,fun z=>?_,fun z=>?_,.inl hb,fun x c e=>(NX b hb).1.2.2.2.2.1 x c (cb (fun d hd=>by simp at hd) e),fun p M8 z=>?_⟩
  ·exact dR (N7 b hb) MN z
  ·rcases Lj.mp (I2.stkSub b z) with e|e
   ·exact (NX b hb).1.2.1 e
   ·exact (NX b hb).1.2.2.1 e
  ·have e1:p.1=D:=hp p (by simpa [aQ] using M8);exact dR (N7 b hb) (K9 _) (z.symm.trans e1)
 have OP:∀{σ':St} {H':Hp} {s':Shared} {ys:List Value} {c:Nat},Inv (aQ X N' scope G.objs.size s₂ H₂ fp) [] σ' H' s'->s'.heap.get? D=some { cls:=.type "list",data:=.seq ys.toArray c }->H' D=none ->
   Inv (aQ X N' scope G.objs.size s₂ H₂ fp) [(D,{ cls:=.type "list",data:=.seq ys.toArray c })] σ' H' s':=fun {σ' H' s' ys c} J e n=>J.pins_of fun p hp=>by
  have e1:=Lm.mp hp;subst e1;exact ⟨e,n,N1,OS,fun v z=>by cases z⟩
 have loop:∀s₃:Shared,(∃tk,s₃={ s₂ with heap:=h₁,toks:=tk })->codeAny (model X.prog X.w) X.A (.compLoop (.ListComp elt [⟨tg,iter,ifs,0⟩] scope pos) 0 (.ref it) (.ref D) (aQ X N' scope G.objs.size s₂ H₂ fp).env)
   (compPost (model X.prog X.w) X.A X.xe use Q' (.ref D) G.objs.size) s₃:=by
  rintro s₃ ⟨tk,rfl⟩;refine pj (fun n s'=>∃i σ' H' xs ys c,Inv (aQ X N' scope G.objs.size s₂ H₂ fp) [] σ' H' s'/\tn i s'.heap/\(∀b∈fp,H' b=none)/\H' D=none/\s'.heap.get? D=some { cls:=.type "list",data:=.seq ys.toArray c }/\aS xs ys/\W i n σ' H' xs)
   ?_ m0 ⟨0,_,H₂,[],[],0,I0 tk,T.keep _ _ _ LP fun b hb o e=>old b o e,fun b hb=>(f2 b hb).1,I2.hok.fresh 0x1,OE,.nil,w0⟩
  rintro n s' ⟨i,σ',H',xs,ys,c,J',F',fr',nD,eD,rv,w'⟩;have J1:=OP J' eD nD;rcases turn i n σ' H' xs w' with ⟨stop,hz,fin⟩|⟨go,hz,step⟩
  ·refine bX (T.done (aQ X N' scope G.objs.size s₂ H₂ fp) rfl rfl rfl hc i _ s' σ' H' _ J1 (Mx fr' fun p hp=>by rw [Lm.mp hp]) F' stop) fun r s4 ⟨hr,J4⟩=>?_;subst hr;obtain ⟨nD4,eD4⟩:=Nj (pp:=[]) J4;obtain ⟨mC,hnC,_⟩:=J4.loc;refine hend D G.objs.size s4 mC hnC (by have:=I2.sz; lia) (fun z=>dR (Lx I2.lt 0x1) (K9 G.objs.size) z.symm) (fun x c e z=>?_) (fun p hp z=>?_) fun h' NT=>?_
   ·obtain ⟨v,q⟩:=I2.cell x c e;exact dR (Lx q.lt 0x1) (K9 G.objs.size) z
   ·exact dR (Lx (Lc (I2.pin p hp).1) 0x1) (K9 G.objs.size) z
   have L7:∀b o,b≠G.objs.size->s4.heap.get? b=some o->h'.get? b=some o:=fun b o hb e=>NT.extBut b o hb e;have hC4:H' G.objs.size=none:=J4.free;have hun:Un (ix X.stack) fp H₂ (upd H' D (.lst xs)) s₂.heap h':=by
    have u:=J4.base;have neD:∀b o,s₂.heap.get? b=some o->b≠D:=fun b o e=>gT e (LF hD);have NF:∀b o,s₂.heap.get? b=some o->b≠G.objs.size:=fun b o e=>gT e (by rw [hD]; exact MN);have Ni:∀b o,H₂ b=some o->b≠D:=fun b o e=>dR (I2.hok.lt e) (LF hD);refine ⟨fun b o e n hb hx=>L7 b o (NF b o e) (u.keep b o e n hb hx),fun b o e n hb hx=>?_,fun b o e n hx=>by rw [aD (neD b o e)]; exact u.free b o e n hx,fun b o e hx=>?_,
     fun b xs e=>by rw [aD (Ni b _ e)]; exact u.tups b xs e,fun b o z e=>by rw [aD (Ni b _ e)]; exact u.frzs b o z e,fun b ps e=>by rw [aD (Ni b _ e)]; exact u.tbls b ps e⟩
    ·obtain ⟨sl,q⟩:=u.slot b o e n hb hx;exact ⟨sl,L7 b _ (NF b o e) q⟩
    ·obtain ⟨o',q⟩:=u.there b o e hx;exact ⟨o',L7 b _ (NF b o e) q⟩
   have O2:kr X.prog X.w (upd H' D (.lst xs)) h':=by
    intro b u e;by_cases hb:b=D
    ·subst hb;rw [aM] at e;cases e;exact ⟨hz,ys,c,rv,L7 _ _ N1 eD4⟩
    ·rw [aD hb] at e;have hnD:∀a o,H' a=some o->a≠D:=fun a o e z=>by rw [z,nD4] at e; cases e
     refine (J4.hok b u e).stay (fun a v ha q=>L7 a v ?_ q) (fun a q=>by rw [aD (hnD a _ q)]; exact q) fun a zs q=>by rw [aD (hnD a _ q)]; exact q
     rintro rfl;rcases ha with z|z
     ·rw [<-z,hC4] at e; cases e
     ·rw [hC4] at z; cases z
   refine ⟨upd H' D (.lst xs),I2.call' (s':={ s4 with heap:=h' }) J4.os hun O2 J4.bare (fun b hb=>?_),by rw [aD (Ne.symm N1)]; exact hC4,fin D nD4⟩;exact ⟨(f2 b hb).2.2.2.1,(f2 b hb).2.1,(f2 b hb).2.2.2.2.1,(f2 b hb).2.2.2.2.2⟩
  ·refine bX (T.item (aQ X N' scope G.objs.size s₂ H₂ fp) rfl rfl rfl hc i _ s' σ' H' FG J1 (Mx fr' fun p hp=>by rw [Lm.mp hp]) F' go) fun r s4 ⟨u,hr,h4⟩=>?_;subst hr;refine bX h4 fun _ s5 ⟨x,H5,I5,r5,y5,Nz,fr5⟩=>?_;have I5':=I5.pinned (Mx fr5 fun p hp=>by rw [Lm.mp hp]) (T.obj _ _ Nz);refine bX (hg _ _ _ _ _ s5 σ' H5 x u _ I5' r5 (step x H5 y5)) fun _ s6 ⟨σ6,H6,I6,q6⟩=>?_;refine bX (hf _ _ _ _ _ s6 σ6 H6 _ I6 q6) fun ok s7 ⟨H7,I7,q7⟩=>?_;have back:∀{σ8:St} {H8:Hp} {s8:Shared},Inv (aQ X N' scope G.objs.size s₂ H₂ fp) ([(D,{ cls:=.type "list",data:=.seq ys.toArray c })]++mL fp s5.heap) σ8 H8 s8 ->
     Inv (aQ X N' scope G.objs.size s₂ H₂ fp) [] σ8 H8 s8/\tn (i+1) s8.heap/\(∀b∈fp,H8 b=none)/\H8 D=none/\s8.heap.get? D=some { cls:=.type "list",data:=.seq ys.toArray c }:=fun {σ8 H8 s8} J=>by
    have pd:=J.pin (D,{ cls:=.type "list",data:=.seq ys.toArray c }) (K7 _ (K8 _ (Lm.mpr rfl)));have pf:∀b∈fp,∀o,s5.heap.get? b=some o->s8.heap.get? b=some o/\H8 b=none:=fun b hb o e=>by
     have q:=J.pin (b,o) (K7 _ (K7 _ (i5 hb e)));exact ⟨q.1,q.2.1⟩
    refine ⟨J.pins_of fun p hp=>absurd hp 0x4,T.keep _ _ _ Nz fun b hb o e=>(pf b hb o e).1,fun b hb=>?_,pd.2.1,pd.1⟩;obtain ⟨o,e,_⟩:=T.obj _ _ Nz b hb;exact (pf b hb o e).2
   cases ok with
   |false=>
    simp only [Bool.false_eq_true,if_false] at q7 ⊢;obtain ⟨m',hm,w7⟩:=q7;obtain ⟨b1,b2,b3,b4,b5⟩:=back I7;exact ⟨m',hm,i+1,σ6,H7,xs,ys,c,b1,b2,b3,b4,b5,rv,w7⟩
   |true=>
    simp only [if_true] at q7 ⊢;refine bX (he _ _ _ _ _ s7 σ6 H7 _ I7 q7) fun u8 s8 ⟨v8,H8,I8,r8,q8⟩=>?_;obtain ⟨m',hm,w8⟩:=q8;obtain ⟨b1,b2,b3,b4,b5⟩:=back I8;refine append_at b5 (fun h9 hs9 e9=>?_) (by rw [List.size_toArray,<-rv.length]; exact Nat.le_of_lt hz);have I9:Inv (aQ X N' scope G.objs.size s₂ H₂ fp) [] σ6 H8 { s8 with heap:=h9 }:=b1.turned (t':=s8.toks) (it:=D) (fun b o hb e=>(hs9.2 b hb).trans e) b4 N1 (.inr (by show s₂.heap.objs.size<=D; lia)) Na fun p hp=>absurd (show p∈([]:List (Addr×Obj)) from hp) 0x4;refine ⟨m',hm,i+1,σ6,H8,xs++[v8],ys++[u8],c+1,I9,T.keep _ _ _ b2 fun b hb o e=>(hs9.2 b ?_).trans e,b3,b4,?_,aS.append rv (.cons r8 .nil),w8⟩
    ·exact dR (N7 b hb) (K9 _)
    ·rw [e9,List.push_toArray]
 exact codeAny_compStart_list (loop _ ⟨_,rfl⟩) (T.self _ 0 _ _ _ (T.keep _ _ _ LP fun b hb o e=>old b o e) (loop _ ⟨_,rfl⟩))
theorem EW {i:Nat} {y:Str} {py NS:Pos} (S:CompFit X k js N' scope) (hc:X.calm=true) (hN:X.N.Nodup) (hi:X.N[i]?=some y) (hx:X.env.scope.names.lookup y=some .local) (hit:PI X tg iter wi)
  (hg:∀C s₂ H₂ fp,PG (aQ X N' scope C s₂ H₂ fp) tg g) (hf:∀C s₂ H₂ fp,PF (aQ X N' scope C s₂ H₂ fp) ifs tc) (he:∀C s₂ H₂ fp,PE (aQ X N' scope C s₂ H₂ fp) elt te)
  (Np:swapsWith (.ListComp elt [⟨tg,iter,ifs,0⟩] scope pos) (some (.Name y py)) NS.line X.env=pure true) (hs:∀x,foldedSetIterable iter X.env x=pure x) :
  PS X (.Assign [.Name y py] (.ListComp elt [⟨tg,iter,ifs,0⟩] scope pos) NS) (F9 (xo wi k js g tc te) (nH i)):=by
 intro pins s σ H D I h;rw [exec_Assign_Name_used _ _ _ _ Np];refine La (wpAny_standAt (La ?_));show wpAny _ X.A (do let _ <-comprehension (.ListComp elt [⟨tg,iter,ifs,0⟩] scope pos) scope X.env _ (newList []) false (eval iter X.env) (some (assign (.Name y py) X.env))) _ _ s;refine La (wpAny_mono (Bc (use:=some (assign (.Name y py) X.env)) (Q':=fun _ s'=>SP X pins D .next s') S hc hit hg hf he I h (fun Dd C s4 m hn h0 h1 h2 h3 hfin=>?_) hs) (fun _ s' hq=>Lb (Lb hq)) fun _ _ e=>e);obtain ⟨H5,I5,n5,q5⟩:=hfin s4.heap (Heap.SameBut.refl _ _);show wpAny _ X.A (assign (.Name y py) X.env (.ref Dd)) _ X.xe s4;refine wpAny_assign_Name (qT (v:=.ref Dd) I5 hN hi (.inl hx) rfl (fun s5 I6 ⟨a,hsb,ha⟩=>?_) (.inr hx));have haC:C≠a:=fun z=>by
  rcases ha with e|e
  ·exact h1 (z.trans e)
  ·exact h2 y a e z.symm
 refine ⟨m,hn.sameBut hsb haC,fun h' NT=>⟨σ.set i (some (.ref Dd)),H5,?_,q5⟩⟩;exact I6.turned (t':=s5.toks) (it:=C) (fun b o hb e=>(NT.2 b hb).trans e) n5 h1 (.inr h0) h2 h3
end
end L2
namespace L3
open PySem PySem.Spec L2
open PyProof.Rows hiding St
section
variable {X:Cx} {E:XK} {k:Nat} {js:List Nat} {N':List Str} {scope:Scope} {elt tg iter:Expr} {ifs:List Expr} {pos py NS:Pos} {y:Str} {i:Nat} {fi:DS->M (List D)} {g:TG} {sf:D->DS->Option DS} {gc:DS->M Bool} {fe:DS->M DV}
theorem sC (S:CompFit X k js N' scope) (hj:js.Nodup) (hc:X.calm=true) (hN:X.N.Nodup) (hit:CG X E tg iter fi) (ht:EE g sf) (Ma:∀δ d δ1,sf d (cK k js δ)=some δ1->Sub (cK k js δ) δ1)
  (hg:∀C s₂ H₂ fp,PG (aQ X N' scope C s₂ H₂ fp) tg g) (hf:∀C s₂ H₂ fp,PF (aQ X N' scope C s₂ H₂ fp) ifs (zX E0 gc)) (he:∀C s₂ H₂ fp,PX (aQ X N' scope C s₂ H₂ fp) E0 elt fe)
  (hi:X.N[i]?=some y:=by rfl) (hx:X.env.scope.names.lookup y=some .local:=by rfl) (Np:swapsWith (.ListComp elt [⟨tg,iter,ifs,0⟩] scope pos) (some (.Name y py)) NS.line X.env=pure true:=by rfl)
  (hs:∀x,foldedSetIterable iter X.env x=pure x:=by intro _; rfl):vw X E (.Assign [.Name y py] (.ListComp elt [⟨tg,iter,ifs,0⟩] scope pos) NS) (aK i (aU k js fi sf gc fe)):=
 PS.mono (EW S hc hN hi hx hit hg hf he Np hs) fun T σ H q=>rm hj ht Ma (by
  obtain ⟨O,P,δ,r,rs,e,q⟩:=q;rcases ax e with ⟨x,e1,e2⟩|⟨cx,e1,e2⟩
  ·obtain ⟨z,e3,e4⟩:=bu e2;cases e4;refine ⟨O,P,δ,.ok x,rs,e1,fun v H1 s1 rx=>?_⟩;obtain ⟨P',kp,L1⟩:=rs.asg s1 rx e3 i;exact q _ H1 P' kp L1
  ·subst e2;exact ⟨O,P,δ,.error cx,rs,e1,fun dx H' s=>q dx H' P (.same s)⟩)
end
section
variable {X:Cx} {E:XK}
theorem Cw {prog:Program} {w:World} {A:Around} {E:Value->Shared->Prop} {s:Shared} {t b:Addr} {ws:List Value} {Q:Value->Shared->Prop} (ht:IsTup s.heap t #[]) (hb:IsTup s.heap b ws.toArray) (h:Q (.ref b) s):wpAny (model prog w) A (binaryOp .Add (.ref t) (.ref b)) Q E s:=by
 obtain ⟨⟨c1,d1,a1,l1⟩,o1,q1,n1,z1⟩:=id ht;obtain ⟨⟨c2,d2,a2,l2⟩,o2,q2,n2,z2⟩:=id hb;simp only at q1 z1 q2 z2;subst q1 z1 q2 z2;exact concat_meets ⟨_,o1,rfl⟩ ⟨_,o2,rfl⟩ noFill_tuple_add seq_tuple_add PySem.F.slot_tuple_add PySem.F.entry_tuple_add (PySem.F.args_tuple_add_2 _ _) (tuple_addW0 t b #[] ws.toArray n1 n2 d1 d2 l1 l2 rfl) ⟨o1,o2,h⟩
noncomputable def zP (x y:DV):M DV:=match x,y with
 |.d (.tuple xs),.d (.tuple ys)=>if xs.length+ys.length<=1000000 then rt (.d (.tuple (xs++ys))) else none
 |_,_=>none
theorem ER:gL X E (binaryOp .Add) zP:=fun pins s σ O P H₀ H x y v u vv uu r Q I hd hs rx ry ev eu e q=>by
 unfold zP at e;split at e
 ·rename_i xs ys;split at e
  ·rename_i hz;cases e;have rx':Rp (P++O) H (.tuple xs) v:=rx;have ry':Rp (P++O) H (.tuple ys) u:=ry;cases rx' with
   |@tup a _ vs za ha la=>
    cases ry' with
    |@tup b _ us zb hb lb=>
     cases xs with
     |nil=>
      cases la;cases ev;cases eu;obtain ⟨i1,r1,p1,_⟩:=I.tuple (j8.of ha);obtain ⟨i2,r2,p2,_⟩:=I.tuple (j8.of hb);cases r1;exact Cw p1 p2 ⟨.ref b,H,I,rfl,q _ H (aE.refl H) (.tup zb hb lb)⟩
     |cons x0 xr=>
      refine Dj pins s σ H (.ref a) (.ref b) vv uu Q I ev eu ⟨a,b,vs,us,rfl,rfl,j8.of ha,j8.of hb,fun z=>?_,line_big (by rw [<-la.length,<-lb.length]; exact hz),fun z=>?_,fun z p hp=>?_⟩
      ·subst z; cases la
      ·subst z;cases lb;rw [List.append_nil] at q;exact q _ H (aE.refl H) (.tup za ha la)
      ·exact q _ _ (bb hp) (Am hd hs hp (la.append lb))
  ·cases e
 ·cases e
noncomputable def aB:=CK a9 zP
theorem bh:gL X E (binaryOp .Add) aB:=bZ.or ER
noncomputable def lV (xs:List DV):M DV:=match xs with
 |[x]=>match nz x with
  |some (.list ys)=>rt (.d (.tuple ys))
  |some (.tuple ys)=>rt (.d (.tuple ys))
  |_=>none
 |_=>none
theorem uF:dI X E (.type "tuple") lV:=dI.of qF fun O P H₀ H xs vs r Q hd hs rx e q=>by
 unfold lV at e;split at e
 ·rename_i x;cases rx with
  |cons r1 rr=>
   cases rr;split at e
   ·rename_i ys h;cases e;obtain ⟨a,ws,rfl,ha,l⟩:=r1.look.1 h;exact ⟨a,ws,rfl,.inl ⟨eN.of ha,fun p hp=>q _ _ (bb hp) (Am hd hs hp l)⟩⟩
   ·rename_i ys h;cases e;cases x with
    |d z=>
     cases h;have r':Rp (P++O) H (.tuple ys) _:=r1;cases r' with
     |tup hz ha l=>exact ⟨_,_,rfl,.inr ⟨j8.of ha,q _ H (aE.refl H) (.tup hz ha l)⟩⟩
    |ob C fs=>cases h
    |fz kvs=>cases h
    |ex q=>cases h
    |tpo p xs q=>cases h
    |nwt p xs q=>cases h
    |own zs=>cases h
    |new zs=>cases h
    |scr K ns=>cases h
   ·cases e
 ·cases e
noncomputable def qz (i:Nat) (f:DS->M DV) (δ:DS):M Out:=match δ[i]? with
 |some (some (.own xs))=>bd (f δ) fun x=>match x with
  |.new ys=>if xs.length+ys.length<=1000000 then rt (.nx (δ.set i (some (.own (xs++ys))))) else none
  |.d (.list ys)=>if xs.length+ys.length<=1000000 then rt (.nx (δ.set i (some (.own (xs++ys))))) else none
  |_=>none
 |_=>none
variable {e o:Expr} {pos apos G':Pos} {f:DS->M DV} {i:Nat}
theorem Ca (ho:PE X o (gy i)) (he:PX X E e f)
  (L9:attributeBase o "extend" X.env (eval o X.env)=eval o X.env:=by rfl)
  (Mq:((backTo G' (starEach [e] X.env)).all (fun x=>!x.1)&&(backToKw G' (keywordEach [] X.env)).all (fun x=>x.1.isSome)
   && decide ([e].length+([]:List Keyword).length+(if ([]:List Keyword).isEmpty then 0 else 1)<30))=true:=by rfl)
  (L6:(apos.endLine==G'.line)=true:=by rfl) (hs:starEach [e] X.env=(false,eval e X.env)::starEach [] X.env:=by rfl) (LX:(backTo G' (starEach [] X.env)).any (·.1)=false:=by rfl)
  (Np:swapsWith (.Call (.Attribute o "extend" apos) [e] [] G') none pos.line X.env=pure false:=by rfl):vw X E (.Expr (.Call (.Attribute o "extend" apos) [e] [] G') pos) (qz i f):=
 PS.mono (kd (ro PySem.F.plainAttrs_list PySem.F.slot_list_extend PySem.F.type_list_extend zq ho (iO he jy hs) L9 Mq L6 hs LX) Np) fun T σ H q=>by
  obtain ⟨O,P,δ,r,rs,e,q⟩:=q;unfold qz at e;split at e
  ·rename_i xs ei;obtain ⟨v,ev,_,a,vs,rfl,hP,ha,l⟩:=rs.at' i _ ei;refine ⟨.ref a,ev,.inl ⟨rfl,_,eN.of ha⟩,?_⟩;rcases ax e with ⟨x,e1,e2⟩|⟨cx,e1,e2⟩
   ·refine ⟨O,P,δ,.ok x,rs,e1,fun u H1 s1 rx=>?_⟩;have fin:∀ys b us,u=.ref b->H1 b=some (.lst us)->RpL (P++O) H1 ys us->xs.length+ys.length<=1000000->r=.ok (.nx (δ.set i (some (.own (xs++ys)))))->xn (.ref a) [u] H1 fun _ H2=>T.nx σ H2:=fun ys b us eu hb lb hz er=>by
     subst eu er;have l1:=(l.kp (.same s1)).append lb;obtain ⟨kp,L1⟩:=(rs.same s1).grow ei ev l1 hP;exact ⟨a,b,vs,us,rfl,rfl,s1 a _ ha,hb,line_big (by rw [<-l.length,<-lb.length]; exact hz),q σ _ P ((Kp.same s1).trans kp) L1⟩
    split at e2
    ·rename_i ys;split at e2
     ·rename_i hz;cases e2;obtain ⟨b,us,eu,hb,lb⟩:=rx.list (xs:=ys) rfl;exact fin ys b us eu hb lb hz rfl
     ·cases e2
    ·rename_i ys;split at e2
     ·rename_i hz;cases e2;obtain ⟨b,us,eu,hb,lb⟩:=rx.list (xs:=ys) rfl;exact fin ys b us eu hb lb hz rfl
     ·cases e2
    ·cases e2
   ·subst e2;exact ⟨O,P,δ,.error cx,rs,e1,fun dx H' s=>q dx H' P (.same s)⟩
  ·cases e
end
section
variable {X:Cx} {E:XK} {a b e o:Expr} {fa fb fo fe:DS->M DV} {pos:Pos}
noncomputable def Hn (x:DV):M Bool:=bd (op (ma x)) fun ys=>rt (!ys.isEmpty)
theorem HP (h:PX X E e fe) (he:∀whole,isTrue e X.env whole=(do let v <-whole; standAt e.pos; holding [v] (truthy v)):=by intro _; rfl):PB X E e (fun δ=>bd (fe δ) Hn):=
 PT.mono (Bz h he) fun σ H Q q=>sJ (g:=fun _=>Hn) q fun O P δ x r v H1 rs LK s1 rx e' q'=>by
  obtain ⟨ys,h1,h2⟩:=bu e';cases h2;obtain ⟨a,ws,rfl,ha,l⟩:=rx.list h1;refine ⟨!ys.isEmpty,.inl ⟨ws,eN.of ha,?_⟩,q' H1 (aE.refl H1)⟩;cases l <;> rfl
end
open PySem PySem.Spec L2 PySem.SeqAt PySem.MeetsSeq
noncomputable abbrev Kk (D':Array Value) (c:Nat):Obj:={ cls:=.type "list",dict:=none,data:=.seq D' c,slots:=#[] }
noncomputable abbrev Ip (l:Addr) (D':Array Value) (c:Nat) (x:Value) (q:Value->Bool) (j:Nat):PySem.Spec:=fun A R s=>s.heap.get? l=some (Kk D' c)/\(∀y,y∈D'->EqAt A.in1 s y x (q y))/\R (.ok (.ret .none)) { s with heap:=s.heap.update l (Obj.mapSeq fun zs=>zs.eraseIdxIfInBounds j) }
theorem Bu (l:Addr) (D':Array Value) (c:Nat) (x:Value) (q:Value->Bool) (j:Nat) (hj:j<D'.size) (yes:q D'[j]=true) (hz:D'.size<=sizeLine):∀k i:Nat,j-i=k->i<=j->(∀m (hm:m<D'.size),i<=m->m<j->q D'[m]=false) ->
  Meets (Builtin.«list.remove.loop» ⟨[.ref l,x,rawInt i],[]⟩) (Ip l D' c x q j):=by
 intro k
 induction k with
 |zero=>
  intro i k0 le no prog w A R s ⟨at_,eqs,fin⟩;obtain ⟨hp,gs,dr,tk,os⟩:=s;obtain rfl:i=j:=by lia
  wp_walk using AutoSeq1.wpAny_loadPart' at_
  rw [show D'[((i:Nat):Int).toNat]?=some D'[i] by simp [hj]];refine La (eqs _ (Array.getElem_mem hj) prog w _ _ ?_); rw [yes]
  have few:(D'.eraseIdxIfInBounds i).size<=sizeLine+1:=Lw (size_erased D' _) (Nat.le_succ_of_le hz)
  wp_walk using (wpAny_updateSeq at_ rfl (hz:=hz) (_hz':=few)),AutoSeq1.wpAny_loadPart' at_
  simpa using fin
 |succ k ih=>
  intro i k1 le no prog w A R s ⟨at_,eqs,fin⟩;obtain ⟨hp,gs,dr,tk,os⟩:=s;have lt:i<D'.size:=by lia
  wp_walk using AutoSeq1.wpAny_loadPart' at_
  rw [show D'[((i:Nat):Int).toNat]?=some D'[i] by simp [lt]];refine La (eqs _ (Array.getElem_mem lt) prog w _ _ ?_); rw [no i lt (K9 _) 0x1]
  wp_walk
  rw [show ((i:Int)+1)=((i+1:Nat):Int) by push_cast; rfl];refine ⟨plainId_quiet plain_remove_loop _,codeAny_builtin entry_remove_loop ?_⟩;rw [Around.under_plainId plain_remove_loop _]; exact ih (i+1) 0x1 0x1 (fun m hm h1 h2=>no m hm 0x1 h2) prog w A R _ ⟨at_,eqs,fin⟩
theorem Gz (l:Addr) (D':Array Value) (c:Nat) (x:Value) (q:Value->Bool) (j:Nat) (hj:j<D'.size) (yes:q D'[j]=true) (no:∀m (hm:m<D'.size),m<j->q D'[m]=false) (hz:D'.size<=sizeLine):Meets (Builtin.«list.remove» ⟨[.ref l,x],[]⟩) (Ip l D' c x q j):=by
 intro prog w A R s ⟨at_,eqs,fin⟩;obtain ⟨hp,gs,dr,tk,os⟩:=s
 wp_walk using AutoSeq1.wpAny_loadPart' at_
 refine ⟨plainId_quiet plain_remove_loop _,codeAny_builtin entry_remove_loop ?_⟩;rw [Around.under_plainId plain_remove_loop _]; exact Bu l D' c x q j hj yes hz _ 0 rfl (Lv _) (fun m hm _ h2=>no m hm h2) prog w A R _ ⟨at_,eqs,fin⟩
section
variable {X:Cx} {E:XK} {e o:Expr} {f:DS->M DV} {pos:Pos}
def JZ (x:V) (vs:List V) (H:Hp) (Q:VK):Prop:=∃O P H₀ l ys ws dy v d j,x=.ref l/\vs=[v]/\H l=some (.lst ws)/\RpL (P++O) H ys ws/\RE O P H₀ H dy v/\nz dy=some d/\d.depth<=60/\ys.findIdx? (fun z=>PyData.eqv z d)=some j/\Q .non (upd H l (.lst (ws.eraseIdx j)))
theorem yJ (hu:X.A.units+64<cLine):JW X "list.remove" JZ:=fun pins s σ H x xs v us Q I rx rs h=>by
 obtain ⟨O,P,H₀,a,ys,ws,dy,w,d,j,rfl,rfl,ha,l,r2,h2,NG,hj,q⟩:=h;obtain ⟨u,rfl,ru⟩:=pM rs;cases rx;obtain ⟨z,D',n,r,hl,e⟩:=I.lstM ha;obtain ⟨⟨as,ra⟩,la⟩:=r2.reads I ru h2;obtain ⟨bs,rb⟩:=RpL.reads I l r;have hm:D'.map (readOf s.heap)=ys:=SeqAt.readsAll_map ys _ _ l.lay rb;rw [List.findIdx?_eq_some_iff_getElem] at hj;obtain ⟨hj1,hj2,hj3⟩:=hj;subst hm;have NZ:j<D'.toArray.size:=by simpa using hj1
 refine call_meets PySem.F.slot_list_remove ⟨_,e,rfl⟩ PySem.F.entry_list_remove (PySem.F.args_list_remove_2 _ _) (Gz a D'.toArray n u (fun y=>PyData.eqv (readOf s.heap y) d) j NZ (by simpa using hj2) (fun m hm lt=>by simpa using hj3 m lt) (by rw [List.size_toArray]; lia))
  ⟨e,SeqAt.items_eqAt (vs:=D'.toArray) rb ra l.lay la (by have:=Nat.min_le_right (PyData.depthAll (D'.map (readOf s.heap))) d.depth; lia),?_⟩
 refine ⟨.non,_,I.lset (its':=D'.eraseIdx j) ha e ?_ (r.eraseIdx j) ?_,rfl,q⟩
 ·show D'.toArray.eraseIdxIfInBounds j=(D'.eraseIdx j).toArray;rw [List.eraseIdxIfInBounds_toArray]
 ·have:=rH ws j;lia
noncomputable def qv (i:Nat) (f:DS->M DV) (δ:DS):M Out:=match δ[i]? with
 |some (some (.own xs))=>bd (f δ) fun x=>bd (op (nz x)) fun d=>if d.depth<=60 then bd (op (xs.findIdx? fun z=>PyData.eqv z d)) fun j=>rt (.nx (δ.set i (some (.own (xs.eraseIdx j))))) else none
 |_=>none
theorem RpL.erase {Z:List Addr} {H:Hp}:∀{xs:List D} {vs:List V} (j:Nat),RpL Z H xs vs->RpL Z H (xs.eraseIdx j) (vs.eraseIdx j)
 |_,_,_,.nil=>by simp; exact .nil
 |_,_,0,.cons p l=>l
 |_,_,j+1,.cons p l=>.cons p (RpL.erase j l)
theorem AZ {i:Nat} {apos G':Pos} (hu:X.A.units+64<cLine) (ho:PE X o (gy i)) (he:PX X E e f)
  (L9:attributeBase o "remove" X.env (eval o X.env)=eval o X.env:=by rfl)
  (Mq:((backTo G' (starEach [e] X.env)).all (fun x=>!x.1)&&(backToKw G' (keywordEach [] X.env)).all (fun x=>x.1.isSome)
   && decide ([e].length+([]:List Keyword).length+(if ([]:List Keyword).isEmpty then 0 else 1)<30))=true:=by rfl)
  (L6:(apos.endLine==G'.line)=true:=by rfl) (hs:starEach [e] X.env=(false,eval e X.env)::starEach [] X.env:=by rfl) (LX:(backTo G' (starEach [] X.env)).any (·.1)=false:=by rfl)
  (Np:swapsWith (.Call (.Attribute o "remove" apos) [e] [] G') none pos.line X.env=pure false:=by rfl):vw X E (.Expr (.Call (.Attribute o "remove" apos) [e] [] G') pos) (qv i f):=
 PS.mono (kd (ro PySem.F.plainAttrs_list PySem.F.slot_list_remove PySem.F.type_list_remove (yJ hu) ho (iO he jy hs) L9 Mq L6 hs LX) Np) fun T σ H q=>by
  obtain ⟨O,P,δ,r,rs,e,q⟩:=q;unfold qv at e;split at e
  ·rename_i xs ei;obtain ⟨v,ev,_,a,vs,rfl,hP,ha,l⟩:=rs.at' i _ ei;refine ⟨.ref a,ev,.inl ⟨rfl,_,eN.of ha⟩,?_⟩;rcases ax e with ⟨x,e1,e2⟩|⟨cx,e1,e2⟩
   ·obtain ⟨d,e3,e4⟩:=bu e2;split at e4
    ·rename_i hz;obtain ⟨j,e5,e6⟩:=bu e4;cases e6;refine ⟨O,P,δ,.ok x,rs,e1,fun u H1 s1 rx=>?_⟩;have l1:=(l.kp (.same s1));obtain ⟨k,L1⟩:=(rs.same s1).grow ei ev (l1.erase j) hP;exact ⟨O,P,_,a,xs,vs,x,u,d,j,rfl,rfl,s1 a _ ha,l1,rx,e3,hz,e5,q σ _ P ((Kp.same s1).trans k) L1⟩
    ·cases e4
   ·subst e2;exact ⟨O,P,δ,.error cx,rs,e1,fun dx H' s=>q dx H' P (.same s)⟩
  ·cases e
end
section
variable {X:Cx} {E:XK} {o e:Expr} {fo fe:DS->M DV} {pos:Pos}
end
noncomputable def mW:List DV->Option (List D×List D×List D)
 |[]=>none
 |.own xs::r=>(dX r).map fun q=>([],xs,q)
 |x::r=>match uh x,mW r with
  |some d,some (p,xs,q)=>some (d::p,xs,q)
  |_,_=>none
theorem lu.split {O P:List Addr} {H H':Hp} (dom:∀a,a∈P++O->∃o,H a=some o):∀{xs:List DV} {vs:List V} {p ys q:List D},lu O P H H' xs vs->mW xs=some (p,ys,q)->∃a ps us qs,vs=ps++.ref a::qs/\a∈P/\H' a=some (.lst us)/\RpL (P++O) H' p ps/\RpL (P++O) H' ys us/\RpL (P++O) H' q qs
 |[],_,_,_,_,_,h=>by cases h
 |x::r,v::vs,p,ys,q,.cons r1 t,h=>by
  have gen:(match uh x,mW r with
   |some d,some (p,xs,q)=>some (d::p,xs,q)
   |_,_=>none)=some (p,ys,q)->∃a ps us qs,v::vs=ps++.ref a::qs/\a∈P/\H' a=some (.lst us)/\RpL (P++O) H' p ps/\RpL (P++O) H' ys us/\RpL (P++O) H' q qs:=fun h=>by
   split at h
   ·rename_i d p' M5 q' h1 h2;cases h;obtain ⟨a,ps,us,qs,e,hP,ha,l1,l2,l3⟩:=lu.split dom t h2;exact ⟨a,_::ps,us,qs,by rw [e]; rfl,hP,ha,.cons (r1.data dom h1) l1,l2,l3⟩
   ·cases h
  cases x with
  |own zs=>
   unfold mW at h;cases hd:dX r with
   |none=>rw [hd] at h; cases h
   |some ds=>
    rw [hd] at h;cases h;obtain ⟨a,vs,rfl,hP,ha,l⟩:=r1;exact ⟨a,[],vs,_,rfl,hP,ha,.nil,l,lu.data dom t hd⟩
  |d z=>exact gen h
  |new z=>exact gen h
  |ob C fs=>exact gen h
  |fz kvs=>exact gen h
  |ex z=>exact gen h
  |tpo p xs z=>exact gen h
  |nwt p xs z=>exact gen h
  |scr K ns=>exact gen h
section
variable {X:Cx} {E:XK} {a b e o:Expr} {es:List Expr} {fa fb f fe:DS->M DV} {fr:DS->M (List DV)} {gc:DS->M Bool} {pos:Pos}
noncomputable def AN (fr:DS->M (List DV)) (δ:DS):M DV:=bd (fr δ) fun xs=>bd (op (mW xs)) fun t=>if xs.length<=1000000 then rt (.tpo t.1 t.2.1 t.2.2) else none
theorem DO {k:Nat} (h:t6 X E es fr):PX X E (.Tuple es k pos) (AN fr):=PE.mono (v9 h) fun σ H Q q=>lN (g:=fun _ xs=>bd (op (mW xs)) fun t=>if xs.length<=1000000 then rt (.tpo t.1 t.2.1 t.2.2) else none) q fun O P δ xs r vs H1 rs LK s1 rx e q=>by
 obtain ⟨⟨p,ys,qq⟩,hd,e⟩:=bu e;split at e
 ·rename_i hz;cases e;obtain ⟨a,ps,us,qs,e1,hP,ha,l1,l2,l3⟩:=lu.split rs.dom rx hd;refine ⟨line_big (by rw [<-Paired.length rx]; exact hz),fun t ht=>q _ _ (bb ht) ?_⟩;have k:Kp (P++O) H1 (P++O) (upd H1 t (.tup vs)):=.same (bb ht);refine ⟨t,a,ps,us,qs,rfl,fun h=>?_,by rw [aM,e1],hP,bb ht a _ ha,l1.kp k,l2.kp k,l3.kp k⟩;obtain ⟨o,q⟩:=LK.dom t h;rw [q] at ht; cases ht
 ·cases e
noncomputable def FH:DV->DV
 |.nwt p xs q=>.d (.tuple (p++.list xs::q))
 |x=>x
noncomputable def t4 (f:DS->M DV) (δ:DS):M DV:=bd (f δ) fun x=>rt (FH x)
theorem vE (h:PX X E e f):PX X E e (t4 f):=PE.mono h fun σ H Q q=>kG (g:=fun _ x=>rt (FH x)) q fun O P δ x r v H1 rs LK s1 rx e q=>by
 cases e;refine q v H1 (aE.refl H1) ?_;cases x with
 |nwt p xs qq=>
  obtain ⟨t,a,ps,vs,qs,rfl,hz,ht,hn,ha,l1,l2,l3⟩:=rx;have sb:∀b,b∈P++O->b∈a::(P++O):=fun b hb=>K3 _ hb;refine Rp.tup (fun h=>hz (sb t h)) ht (RpL.append (l1.kp (.sub sb)) (.cons (Rp.lst (fun h=>?_) ha (l2.kp (.sub sb))) (l3.kp (.sub sb))));obtain ⟨o,z⟩:=rs.dom a h;rw [hn] at z; cases z
 |d x=>exact rx
 |ob C fs=>exact rx
 |fz kvs=>exact rx
 |ex z=>exact rx
 |tpo p xs z=>exact rx
 |own xs=>exact rx
 |new xs=>exact rx
 |scr K ns=>exact rx
theorem Bs (i:Nat) (h:PB X E e gc):PB X E e (fun δ=>gc (frz i δ)):=PT.mono h fun σ H Q q=>by
 obtain ⟨O,P,δ,r,rs,e,q⟩:=q;obtain ⟨P',hP,L1⟩:=rs.frz i;exact ⟨O,P',frz i δ,r,L1,e,q⟩
noncomputable def xp (i k:Nat) (f:DS->M DV) (δ:DS):M Out:=match δ[i]? with
 |some (some (.tpo p xs q))=>if p.length=k then bd (f δ) fun x=>bd (op (uh x)) fun d=>if xs.length<1000000 then rt (.nx (δ.set i (some (.tpo p (xs++[d]) q)))) else none else none
 |_=>none
theorem ES {ps qs:List V} {v:V}:atI (ps++v::qs) (ps.length:Int)=some v:=by
 unfold atI;have:Cy (ps++v::qs).length (ps.length:Int)=some ps.length:=by
  unfold Cy;simp;lia
 rw [this];simp
theorem CO {i k:Nat} {apos G':Pos} (ho:PE X o (JI (Kx X.K) (gy i) (tC (.int (k:Int))))) (he:PX X E e f)
  (L9:attributeBase o "append" X.env (eval o X.env)=eval o X.env:=by rfl)
  (Mq:((backTo G' (starEach [e] X.env)).all (fun x=>!x.1)&&(backToKw G' (keywordEach [] X.env)).all (fun x=>x.1.isSome)
   && decide ([e].length+([]:List Keyword).length+(if ([]:List Keyword).isEmpty then 0 else 1)<30))=true:=by rfl)
  (L6:(apos.endLine==G'.line)=true:=by rfl) (hs:starEach [e] X.env=(false,eval e X.env)::starEach [] X.env:=by rfl) (LX:(backTo G' (starEach [] X.env)).any (·.1)=false:=by rfl)
  (Np:swapsWith (.Call (.Attribute o "append" apos) [e] [] G') none pos.line X.env=pure false:=by rfl):vw X E (.Expr (.Call (.Attribute o "append" apos) [e] [] G') pos) (xp i k f):=
 PS.mono (kd (ro PySem.F.plainAttrs_list PySem.F.slot_list_append PySem.F.type_list_append mI ho (iO he jy hs) L9 Mq L6 hs LX) Np) fun T σ H q=>by
  obtain ⟨O,P,δ,r,rs,e,q⟩:=q;unfold xp at e;split at e
  ·rename_i p xs qq ei;split at e
   ·rename_i hk;obtain ⟨v,ev,_,t,a,ps,vs,qs,rfl,hzt,ht,hP,ha,l1,l2,l3⟩:=rs.at' i _ ei;refine ⟨.ref t,ev,.inr (.inl ⟨_,_,_,.ref a,rfl,rfl,j8.of ht,?_,?_⟩)⟩
    ·rw [<-hk,l1.length]; exact ES
    refine ⟨.inl ⟨rfl,_,eN.of ha⟩,?_⟩;rcases ax e with ⟨x,e1,e2⟩|⟨cx,e1,e2⟩
    ·obtain ⟨d,e3,e4⟩:=bu e2;split at e4
     ·rename_i hz;cases e4;refine ⟨O,P,δ,.ok x,rs,e1,fun u H1 s1 rx=>?_⟩;have ru:=rx.data rs.dom e3;have l4:=(l2.kp (.same s1)).append (.cons ru .nil);have kz:Kp (P++O) H1 (P++O) (upd H1 a (.lst (vs++[u]))):=⟨fun b o hb q=>by rw [aD (show b≠a from fun z=>hb (by rw [z]; exact K8 _ hP))]; exact q,fun b hb=>.inl hb⟩;have hta:t≠a:=fun z=>hzt (by rw [z]; exact K8 _ hP);obtain ⟨k1,L1⟩:=(rs.same s1).growG (x':=.tpo p (xs++[d]) qq) (us:=vs++[u]) ei ev (a:=a) ⟨t,_,rfl,s1 t _ ht,by rw [l1.length,List.getElem?_append_right (K9 _),Nat.sub_self]; rfl⟩ (fun _=>nofun)
       ⟨t,a,ps,vs++[u],qs,rfl,hzt,by rw [aD hta]; exact s1 t _ ht,hP,aM,(l1.kp (.same s1)).kp kz,l4.kp kz,(l3.kp (.same s1)).kp kz⟩ (fun b h=>by
        obtain ⟨t',us,e',NU,hu⟩:=h;cases e';rw [aD hta,s1 t _ ht] at NU;cases NU;rw [l1.length,List.getElem?_append_right (K9 _),Nat.sub_self] at hu;cases hu;rfl) hP
      refine ⟨a,vs,u,rfl,rfl,s1 a _ ha,?_,q σ _ P ((Kp.same s1).trans k1) L1⟩;rw [<-l2.length];exact Lx hz (by rw [sizeLine_eq]; decide)
     ·cases e4
    ·subst e2;exact ⟨O,P,δ,.error cx,rs,e1,fun dx H' s=>q dx H' P (.same s)⟩
   ·cases e
  ·cases e
end
section
variable {X:Cx} {E:XK}
noncomputable def nF:List D->Option (List Int)
 |[]=>some []
 |.int i::r=>(nF r).map (i::·)
 |_::_=>none
theorem mP:∀{xs:List D} {ns:List Int},nF xs=some ns->xs=ns.map PyData.int
 |[],ns,h=>by cases h; rfl
 |x::r,ns,h=>by
  cases x with
  |int b=>
   unfold nF at h;cases e:nF r with
   |none=>rw [e] at h; cases h
   |some cs=>rw [e] at h; cases h; rw [mP e]; rfl
  |_=>cases h
theorem mw (ns:List Int):nF (ns.map PyData.int)=some ns:=by
 induction ns with
 |nil=>rfl
 |cons b r ih=>rw [List.map_cons,nF,ih]; rfl
noncomputable def qI (xs:List DV):M DV:=match xs with
 |[x]=>bd (op (ma x)) fun ys=>bd (op (nF ys)) fun ns=>rt (.d (.int ns.sum))
 |_=>none
theorem gj {Z:List Addr} {H:Hp}:∀{ns:List Int} {vs:List V} {us:List Value},RpL Z H (ns.map PyData.int) vs->aS vs us->∃ps:List (Int×Tok),us=ps.map (fun p=>Value.int p.1 p.2)/\ps.map (·.1)=ns
 |[],_,_,.nil,.nil=>⟨[],rfl,rfl⟩
 |b::r,_,_,.cons p l,.cons q t=>by
  cases p;obtain ⟨tk,rfl⟩:=q;obtain ⟨ps,e1,e2⟩:=gj l t;exact ⟨(b,tk)::ps,by rw [e1]; rfl,by rw [List.map_cons,e2]⟩
theorem wg:bootBuiltins "sum" = some (.builtin "sum"):=by decide +kernel
theorem wK (hc:X.calm=true):dI X E (.builtin "sum") qI:=fun pins s σ O P H₀ H xs vs us r Q I hd hs rx rv e q=>by
 unfold qI at e;split at e
 ·obtain ⟨ys,e1,e2⟩:=bu e;obtain ⟨ns,e3,e4⟩:=bu e2;cases e4;cases rx with
  |cons r1 rr=>
   cases rr;obtain ⟨a,ws,rfl,ha,l⟩:=r1.list e1;cases rv with
   |cons q1 q2=>
    cases q2;cases q1;have hys:=mP e3;subst hys;obtain ⟨D',ri,pl,hz⟩:=I.list (eN.of ha);obtain ⟨ps,hits,OV⟩:=gj l ri;have ML:=pl.isList;have hl:s.heap.IsList a (intItems ps.toArray):=by
     have:D'.toArray=intItems ps.toArray:=by rw [hits]; simp [intItems]
     rw [<-this]; exact ML
    refine sum_intListG (I.ok.hd hc) hl fun h' tk t' hk=>?_;have hsum:preSum (numAt ps.toArray) ps.toArray.size=ns.sum:=by
     rw [preSum_eq,List.take_of_length_le 0x4];rw [<-OV]
    rw [hsum];exact ⟨.int _,H,I.kept (t':=tk) fun b ob eb=>hk b ob eb,⟨_,rfl⟩,q _ H (aE.refl H) (.int _)⟩
 ·cases e
end
section
variable {X:Cx} {E:XK} {e:Expr} {fe:DS->M DV} {pos p:Pos}
end
section
variable {X:Cx} {E:XK} {o e e1 e2 c:Expr} {f fk fe f1 f2:DS->M DV} {gc:DS->M Bool} {F:DS->M Out} {pos:Pos}
noncomputable def KC (W:DS->M Out):Out->M Out
 |.nx δ=>W δ
 |.ct δ=>W δ
 |.bk δ=>rt (.nx δ)
 |.rt x=>rt (.rt x)
noncomputable def zN (gc:DS->M Bool) (F:DS->M Out):Nat->DS->M Out
 |0,_=>none
 |n+1,δ=>bd (gc δ) fun k=>if k=true then bd (F δ) (KC (zN gc F n)) else rt (.nx δ)
theorem Bt (n:Nat) {body:List Stmt} (hp:PassesOwn (model X.prog X.w) X.A X.env X.xe) (hc:PB X E c gc) (hb:yy X E body F):vw X E (.While c body [] pos) (zN gc F n):=
 PS.mono (BH hp hc hb) fun T σ H q=>by
  refine ⟨fun m σ H=>∃O P δ r,RS O P H σ δ/\zN gc F m δ=some r/\Dc E O P H T r,⟨n,q⟩,fun m σ H w=>?_⟩;obtain ⟨O,P,δ,r,rs,e,q⟩:=w;cases m with
  |zero=>cases e
  |succ m=>
   unfold zN at e;rcases ax e with ⟨k,e1,e2⟩|⟨cx,e1,e2⟩
   ·refine ⟨O,P,δ,.ok k,rs,e1,fun H1 s1=>?_⟩;cases k with
    |false=>
     cases e2;exact vL (q σ H1 P (.same s1) (rs.same s1))
    |true=>
     refine wG ⟨fun σ' H'=>∃O P δ r,RS O P H' σ' δ/\zN gc F m δ=some r/\Dc E O P H' T r,fun σ' H' h=>⟨m,Nat.lt_succ_self m,h⟩,?_⟩;rw [if_pos rfl] at e2;have q1:=q.on (Kp.same (Z:=P) s1);rcases ax e2 with ⟨o,e3,e4⟩|⟨cx,e3,e4⟩
     ·refine ⟨O,P,δ,.ok o,rs.same s1,e3,?_⟩;cases o with
      |nx δ'=>exact fun σ' H' P' k' L1=>⟨O,P',δ',r,L1,e4,q1.on k'⟩
      |ct δ'=>exact fun σ' H' P' k' L1=>⟨O,P',δ',r,L1,e4,q1.on k'⟩
      |bk δ'=>cases e4; exact fun σ' H' P' k' L1=>q1 σ' H' P' k' L1
      |rt x=>cases e4; exact q1
     ·subst e4;exact ⟨O,P,δ,.error cx,rs.same s1,e3,q1⟩
   ·subst e2;exact ⟨O,P,δ,.error cx,rs,e1,fun dx H' s=>q dx H' P (.same s)⟩
end
end L3
namespace LW
open PySem PySem.Spec L2 L3
noncomputable def good (m c:Int):Bool:=decide (3<=m)&&decide (m<=13)&&(decide (1<=c)&&decide (c<=4))
noncomputable def Hy (C CB:Addr) (fr:DS->M (List DV)):DS->M DV:=aR (JG C CB good "most" "colours") fr
noncomputable def rU (C:Addr):DS->M Out:=(bx (m5 (zM kg kg (eC (.int 1)) (e2 bz (af 1) (eC (.int 0))) (gY C "most" (af 0))) (zM kg hW (eC (.int 0)) (e2 bz (af 1) (eC (.int 1))) (gY C "colours" (af 0)))))
noncomputable def bW (C:Addr):List DV->M DV:=eT ["house", "tile"] (rU C)
noncomputable def km:DS->M Out:=(bx (aR qB (aa (aU 1 [0] (mv (aa (eC (.int 1)) (aa (aR c6 (aa (af 0) ai)) ai))) (ar 0) bN (e2 kg (e2 bz (af 1) (e2 gSub (af 0) (eC (.int 1)))) (e2 bz (af 1) (af 0)))) ai)))
noncomputable def dq:List DV->M DV:=eT ["row"] (km)
noncomputable def rj (C:Addr):DS->M Out:=(bE (gk (yw (fun δ=>bd (e2 wz (aR c6 (aa (af 1) ai)) (eC (.int 12)) δ) bR) (gm (fun δ=>bd (zM kg kg (eC (.int 0)) (af 2) (eC (.int 2)) δ) bR))) (bx (eC (.bool false))) b9) (bE (gk (gm (fun δ=>bd ((aR qB (aa (aU 1 [0,1] (hX (af 1)) (ar 0) bN (m5 (aR (aw 2 (bW C)) (aa (af 1) (aa (af 0) ai))) (e2 kg (pA (af 2) (af 0)) (eC (.int 2))))) ai)) δ) bR)) (bx (eC (.bool false))) b9) (bx (aR (aw 1 (dq)) (aa (af 1) ai)))))
noncomputable def gZ (C:Addr):List DV->M DV:=eT ["house", "hand", "jokers"] (rj C)
noncomputable def jQ (K:Li):DS->M Out:=(bE (gk (fun δ=>bd (e2 hW (af 1) (aR (uJ K) (aa (af 0) ai)) δ) bR) (bx (e2 (BC K) (af 0) (af 1))) b9) (bx (eC (.int 0))))
noncomputable def aG (K:Li):List DV->M DV:=eT ["script", "k"] (jQ K)
noncomputable def pQ:DS->M Out:=(bE (aK 3 (cw (aa (eC (.int 48271)) (aa (eC (.int 69621)) (aa (eC (.int 16807)) (aa (eC (.int 39373)) (aa (eC (.int 30269)) (aa (eC (.int 40014)) (aa (eC (.int 40692)) (aa (eC (.int 50021)) (aa (eC (.int 61687)) (aa (eC (.int 71993)) (aa (eC (.int 83869)) (aa (eC (.int 95561)) (aa (eC (.int 30307)) ai))))))))))))))) (bE (aK 4 (e2 a9 (e2 a9 (e2 jT (e2 a9 (e2 kl (af 0) (eC (.int 2147483647))) (eC (.int 12345))) (e2 bz (af 3) (e2 kl (af 1) (eC (.int 13))))) (e2 jT (eC (.int 977)) (af 1))) (e2 jT (eC (.int 7919)) (e2 Ai (af 1) (eC (.int 13)))))) (bE (aK 4 (e2 kl (af 4) (eC (.int 1000000007)))) (bx (e2 kl (e2 Ai (e2 kl (e2 a9 (e2 jT (af 4) (af 4)) (e2 jT (eC (.int 48271)) (af 1))) (eC (.int 1000000007))) (eC (.int 7))) (af 2))))))
noncomputable def az:List DV->M DV:=eT ["cell", "k", "many", "some", "stir"] (pQ)
noncomputable def tV:DS->M Out:=(bx (m5 (Gk "int" (af 0)) (Cr (Gk "bool" (af 0)))))
noncomputable def gf:List DV->M DV:=eT ["found"] (tV)
noncomputable def jb (K:Li):DS->M Out:=(bE (aK 1 (aR (aw 2 (aG K)) (aa (af 0) (aa (eC (.int 0)) ai)))) (bx (bj (aa (e2 a9 (eC (.int 3)) (aR (aw 3 (az)) (aa (af 1) (aa (eC (.int 1)) (aa (e2 bz (cw (aa (eC (.int 4)) (aa (eC (.int 4)) (aa (eC (.int 4)) (aa (eC (.int 11)) ai))))) (aR (aw 3 (az)) (aa (af 1) (aa (eC (.int 2)) (aa (eC (.int 4)) ai))))) ai))))) (aa (e2 a9 (eC (.int 1)) (aR (aw 3 (az)) (aa (af 1) (aa (eC (.int 3)) (aa (eC (.int 4)) ai))))) ai)))))
noncomputable def dk (K:Li):List DV->M DV:=eT ["script", "cell"] (jb K)
noncomputable def jG:DS->M Out:=(bE (aK 2 (cw ai)) (bE (cG (hX (af 0)) (ar 3) (gk (kh (fun δ=>bd (e2 hW (pA (af 2) (af 3)) (eC (.int 2)) δ) bR) (fun δ=>bd (e2 hW (aR c6 (aa (af 2) ai)) (af 1) δ) bR)) (kj 2 (af 3)) b9)) (bx (aR sN (aa (af 2) ai)))))
noncomputable def cm:List DV->M DV:=eT ["tiles", "limit", "found", "tile"] (jG)
noncomputable def jK (K:Li):DS->M Out:=(bE (aK 5 (cw ai)) (bE (cG (rS (aa (eC (.int 3)) ai)) (ar 6) (bE (aK 7 (aR (aw 2 (aG K)) (aa (af 0) (aa (e2 a9 (af 1) (af 6)) ai)))) (bE (CI (kP 2 (cJ (ar 8) (cJ (ar 9) lS))) (bj (aa (e2 a9 (eC (.int 1)) (aR (aw 3 (az)) (aa (af 7) (aa (eC (.int 1)) (aa (af 2) ai))))) (aa (aR (aw 3 (az)) (aa (af 7) (aa (eC (.int 2)) (aa (af 3) ai)))) ai)))) (bE (aK 10 (e2 a9 (eC (.int 2)) (aR (aw 3 (az)) (aa (af 7) (aa (eC (.int 3)) (aa (eC (.int 4)) ai)))))) (bE (gk (fun δ=>bd (e2 (iG false) (aR (aw 3 (az)) (aa (af 7) (aa (eC (.int 4)) (aa (eC (.int 2)) ai)))) (eC (.int 0)) δ) bR) (aK 5 (e2 a9 (af 5) (aU 1 [9] (mv (aa (af 8) (aa (e2 a9 (aR ze (aa (af 2) (aa (e2 gSub (e2 a9 (af 8) (af 10)) (eC (.int 1))) ai))) (eC (.int 1))) ai))) (ar 0) bN (bj (aa (af 0) (aa (af 1) ai)))))) (aK 5 (e2 a9 (af 5) (aU 1 [8,7] (rS (aa (af 3) ai)) (ar 0) (fun δ=>bd (e2 wz (aR (aw 3 (az)) (aa (af 2) (aa (e2 a9 (eC (.int 10)) (af 0)) (aa (eC (.int 4)) ai)))) (eC (.int 0)) δ) bR) (bj (aa (af 1) (aa (af 0) ai))))))) (gk (fun δ=>bd (e2 (iG false) (aR (aw 3 (az)) (aa (af 7) (aa (eC (.int 5)) (aa (eC (.int 3)) ai)))) (eC (.int 0)) δ) bR) (kj 5 (bj (aa (e2 a9 (eC (.int 1)) (aR (aw 3 (az)) (aa (af 7) (aa (eC (.int 6)) (aa (af 2) ai))))) (aa (aR (aw 3 (az)) (aa (af 7) (aa (eC (.int 7)) (aa (af 3) ai)))) ai)))) b9)))))) (bE (gk (fun δ=>bd (e2 (iG false) (aR c6 (aa (af 5) ai)) (eC (.int 0)) δ) bR) (aK 5 (cw (aa (bj (aa (eC (.int 1)) (aa (eC (.int 0)) ai))) ai))) b9) (bE (gk (fun δ=>bd (e2 (iG false) (e2 kl (aR (aw 2 (aG K)) (aa (af 0) (aa (e2 a9 (af 1) (eC (.int 3))) ai))) (eC (.int 9))) (eC (.int 7)) δ) bR) (bx (cw ai)) b9) (fun δ=>(bx (aR (aw 2 (cm)) (aa (af 5) (aa (e2 a9 (eC (.int 1)) (e2 kl (aR (aw 2 (aG K)) (aa (af 0) (aa (e2 a9 (af 1) (eC (.int 3))) ai))) (af 4))) ai)))) (frz 5 δ))))))
noncomputable def dJ (K:Li):List DV->M DV:=eT ["script", "start", "most", "colours", "limit", "tiles", "k", "cell", "number", "colour", "size"] (jK K)
theorem BF (a b:Bool):(if a=true then rt (DV.d (.bool b)) else rt (DV.d (.bool false)))=rt (.d (.bool (a&&b))):=by cases a <;> rfl
theorem yC (a b:Bool):(if a=true then rt b else rt false)=(rt (a&&b):M Bool):=by cases a <;> rfl
theorem AU (a b:Bool):(if a=true then rt true else rt b)=(rt (a||b):M Bool):=by cases a <;> rfl
theorem Ar (a b:Bool):(if a=true then rt (DV.d (.bool true)) else rt (DV.d (.bool b)))=rt (.d (.bool (a||b))):=by cases a <;> rfl
local macro_rules|`(tactic| walk_at "py")=>`(tactic| simp only [eT,m9,bE,aK,bx,gk,b9,CI,o5,G6,af,eC,e2,aa,ai,bj,cw,aR,aw,L3.args_nil,vY,oH,pS,pL,mD,sM,mF,Option.map_some,ay,z5,tw,aP,wM,wd,wj,wq,sR,sE,AK,tm,sO,wu,vJ,r9,pX,oV,xC,gm,kh,yw,m5,Kd,Cr,zM,gY,List.map_cons,List.map_nil,List.length_cons,List.length_nil,List.replicate,List.cons_append,List.nil_append,List.append_nil,List.getElem?_cons_zero,List.getElem?_cons_succ,List.set_cons_zero,List.set_cons_succ,Option.join_some,Nat.reduceAdd,Nat.reduceSub,Nat.reduceLeDiff,Nat.reduceEqDiff,if_true,if_false,ite_true,ite_false,Bool.not_true,Bool.not_false,Bool.false_eq_true,Nat.zero_add,yA,oA,xT,oE,oC,rR,tT,sG,cZ,pE,cM,sk,rX,ka,iL,fH,g7,BF,yC,AU,Ar])
noncomputable def bw (ns:List Int) (k:Int):Int:=if k<(ns.length:Int) then (atI ns k).getD 0 else 0
variable {i:Int}
theorem AH {α:Type} {xs:List α} (h0:0<=i) (h1:i<(xs.length:Int)):∃x,atI xs i=some x:=by
 unfold atI Cy;rw [if_pos h0,if_pos h1];exact ⟨xs[i.toNat]'0x1,0x4⟩
theorem Ck (K:Li) (ns:List Int):uJ K [.scr K ns]=rt (.d (.int ns.length)):=by
 unfold uJ;exact if_pos rfl
theorem CU (K:Li) (ns:List Int) (i:Int):BC K (.scr K ns) (.d (.int i))=bd (op (atI ns i)) fun n=>rt (.d (.int n)):=by
 unfold BC;exact if_pos rfl
theorem Bi (K:Li) (ns:List Int) (k:Int) (h:0<=k):aG K [.scr K ns,.d (.int k)]=rt (.d (.int (bw ns k))):=by
 unfold aG jQ bw;walk_at "py";rw [Ck];walk_at "py";by_cases hk:k<(ns.length:Int)
 ·obtain ⟨x,hx⟩:=AH h hk;rw [Lz hk,CU,hx,if_pos hk];walk_at "py";rfl
 ·rw [Ly hk,if_neg hk];walk_at "py"
theorem GA (h0:0<=i) (h1:i<13):∃x:Int,atI ([.int 48271,.int 69621,.int 16807,.int 39373,.int 30269,.int 40014,.int 40692,.int 50021,.int 61687,.int 71993,.int 83869,.int 95561,.int 30307]:List D) i=some (.int x)/\0<x/\x<100000:=by
 obtain ⟨n,rfl⟩:=Int.eq_ofNat_of_zero_le h0;have hn:n<13:=by lia
 match n,hn with
 |0,_|1,_|2,_|3,_|4,_|5,_|6,_|7,_|8,_|9,_|10,_|11,_|12,_=>exact ⟨_,rfl,0x3,0x3⟩
variable {xs:List D} {x:D}
theorem DT (h:atI xs i=some x):bz (.own xs) (.d (.int i))=rt (.d x):=by
 unfold bz;simp only [h,aP,ay]
theorem oz (h:atI xs i=some x):bz (.new xs) (.d (.int i))=rt (.d x):=by
 unfold bz;simp only [h,aP,ay]
theorem aH (h:atI xs i=some x):bz (.d (.tuple xs)) (.d (.int i))=rt (.d x):=by
 unfold bz;simp only [h,aP,ay]
theorem oF (h:atI xs i=some x):bz (.d (.list xs)) (.d (.int i))=rt (.d x):=by
 unfold bz;simp only [h,aP,ay]
variable {j:Int}
theorem sS (h:0<=i) (h':i<18446744073709551616):vR i j=true:=by
 unfold vR;have a:decide (-(2 ^ 64)<i)=true:=Lz 0x1;have b:decide (i<2 ^ 64)=true:=Lz 0x1;rw [a,b]; rfl
theorem G4 (h:0<=j) (h':j<18446744073709551616):vR i j=true:=by
 unfold vR;have a:decide (-(2 ^ 64)<j)=true:=Lz 0x1;have b:decide (j<2 ^ 64)=true:=Lz 0x1;rw [a,b,Bool.and_true,Bool.or_true]
theorem uT (cell k many:Int) (hm:0<many):∃r,az [.d (.int cell),.d (.int k),.d (.int many)]=rt (.d (.int r))/\0<=r/\r<many:=by
 unfold az pQ;walk_at "py";rw [fQ 0x3,fQ 0x3,vj 0x3 0x3];obtain ⟨x,hx,x0,x1⟩:=GA (Int.emod_nonneg k (by decide:(13:Int)≠0)) (Int.emod_lt_of_pos k (by decide:(0:Int)<13));walk_at "py";rw [DT hx];walk_at "py";rw [gG (G4 0x1 0x1),gG (sS 0x3 0x3),gG (sS 0x3 0x3)];walk_at "py";rw [fQ 0x3];walk_at "py";generalize hs:((cell % 2147483647+12345)*x+977*k+7919*(k / 13)) % 1000000007=st;have s0:0<=st:=by rw [<-hs]; exact Int.emod_nonneg _ 0x3
 have s1:st<1000000007:=by rw [<-hs]; exact Int.emod_lt_of_pos _ 0x3
 rw [gG (sS s0 0x1),gG (sS 0x3 0x3)];walk_at "py";rw [fQ 0x3];walk_at "py";rw [vj 0x3 0x3];walk_at "py";rw [fQ hm];walk_at "py";exact ⟨_,rfl,Int.emod_nonneg _ 0x1,Int.emod_lt_of_pos _ hm⟩
local macro_rules|`(tactic| walk_at "py")=>`(tactic| simp only [eT,m9,bE,aK,bx,gk,b9,CI,o5,G6,af,eC,e2,aa,ai,bj,cw,aR,aw,L3.args_nil,vY,oH,pS,pL,mD,sM,mF,Option.map_some,ay,z5,tw,aP,wM,wd,wj,wq,sR,sE,AK,tm,sO,wu,vJ,r9,pX,oV,xC,gm,kh,yw,m5,Kd,Cr,zM,gY,List.map_cons,List.map_nil,List.length_cons,List.length_nil,List.replicate,List.cons_append,List.nil_append,List.append_nil,List.getElem?_cons_zero,List.getElem?_cons_succ,List.set_cons_zero,List.set_cons_succ,Option.join_some,Nat.reduceAdd,Nat.reduceSub,Nat.reduceLeDiff,Nat.reduceEqDiff,if_true,if_false,ite_true,ite_false,Bool.not_true,Bool.not_false,Bool.false_eq_true,Nat.zero_add,yA,oA,xT,oE,oC,rR,tT,sG,cZ,pE,cM,sk,rX,ka,iL,fH,g7,BF,yC,AU,Ar])
theorem EC (K:Li) (ns:List Int):∃m c,dk K [.scr K ns]=rt (.d (.tuple [.int m,.int c]))/\3<=m/\m<=13/\1<=c/\c<=4:=by
 unfold dk jb;walk_at "py";rw [Bi K ns 0 0x3];walk_at "py";obtain ⟨r1,h1,a1,b1⟩:=uT (bw ns 0) 2 4 0x3;rw [h1];walk_at "py";have hx:∃x:Int,atI ([.int 4,.int 4,.int 4,.int 11]:List D) r1=some (.int x)/\4<=x/\x<=11:=by
  obtain ⟨n,rfl⟩:=Int.eq_ofNat_of_zero_le a1;have hn:n<4:=by lia
  match n,hn with
  |0,_|1,_|2,_|3,_=>exact ⟨_,rfl,0x3,0x3⟩
 obtain ⟨x,hx,x4,x11⟩:=hx;rw [oz hx];walk_at "py";obtain ⟨r2,h2,a2,b2⟩:=uT (bw ns 0) 1 x 0x1;obtain ⟨r3,h3,a3,b3⟩:=uT (bw ns 0) 3 4 0x3;rw [h2,h3];walk_at "py";exact ⟨_,_,rfl,0x1,0x1,0x1,0x1⟩
noncomputable def pr (p:Int×Int):D:=.tuple [.int p.1,.int p.2]
theorem mZ (p q:Int×Int):PyData.eqv (pr p) (pr q)=decide (p=q):=by
 obtain ⟨a,b⟩:=p;obtain ⟨c,d⟩:=q;show PyData.eqvAll ([a,b].map PyData.int) ([c,d].map PyData.int)=_;rw [pI];simp
theorem yn:∀ps qs:List (Int×Int),PyData.eqvAll (ps.map pr) (qs.map pr)=decide (ps=qs)
 |[],[]=>rfl
 |[],_::_=>rfl
 |_::_,[]=>rfl
 |p::ps,q::qs=>by
  rw [List.map_cons,List.map_cons,PyData.eqvAll,mZ,yn ps qs];by_cases h:p=q
  ·subst h; simp
  ·simp [h]
theorem Gj {p q:Int×Int} (h:pr p=pr q):p=q:=by
 have:=mZ p q;rw [h,mZ] at this;simpa using this.symm
theorem rL:∀ps:List (Int×Int),PyData.depthAll (ps.map pr)<=1
 |[]=>by decide
 |p::ps=>by
  rw [List.map_cons,PyData.depthAll];have h1:(pr p).depth=1:=rfl;have h2:=rL ps;lia
noncomputable def le (p q:Int×Int):Bool:=!(ll [q.1,q.2] [p.1,p.2])
theorem Iu (p q:Int×Int):cD false (pr p) (pr q)=some (le p q):=by
 obtain ⟨a,b⟩:=p;obtain ⟨c,d⟩:=q;show cL false [.int a,.int b] [.int c,.int d]=some (!(HT.lexLt [c,d] [a,b]));unfold cL;have e1:PyData.eqv (.int a) (.int c)=(a==c):=rfl;have e2:PyData.eqv (.int b) (.int d)=(b==d):=rfl;rw [e1,HT.lexLt_cons,HT.lexLt_cons];by_cases h:a=c
 ·subst h;rw [if_pos (beq_self_eq_true a),if_pos rfl];unfold cL;rw [e2];by_cases h':b=d
  ·subst h';rw [if_pos (beq_self_eq_true b),if_pos rfl];rfl
  ·rw [if_neg (by simpa using h'),if_neg (Ne.symm h')];show some (decide (b<=d))=_;congr 1;by_cases hb:b<=d
   ·simp [hb]
   ·simp [hb]; lia
 ·rw [if_neg (by simpa using h),if_neg (Ne.symm h)];show some (decide (a<=c))=_;congr 1;by_cases hb:a<=c
  ·simp [hb]
  ·simp [hb]; lia
theorem En (p q:Int×Int):kg (.d (pr p)) (.d (pr q))=rt (.d (.bool (le p q))):=by
 have h:kg (.d (pr p)) (.d (pr q))=gC false (.d (pr p)) (.d (pr q)):=rfl;rw [h];show (if (pr p).depth<=60 then bd (op (cD false (pr p) (pr q))) (fun k=>rt (DV.d (.bool k))) else none)=_;rw [if_pos (show (pr p).depth<=60 from (by decide:1<=60)),Iu];rfl
theorem vk {fe:DS->M DV} {δ:DS} {g:D->D}:∀{xs:List D},(∀d∈xs,fe (δ.set 0 (some (.d d)))=rt (.d (g d)))->cH (ar 0) bN fe δ xs=some (xs.map g)
 |[],_=>rfl
 |d::r,h=>by
  have h1:=h d K5;have ih:=vk (xs:=r) fun e he=>h e (K3 _ he);unfold cH;simp only [ar,bN,rt];rw [h1,ih];rfl
theorem ow {bs:List Bool}:qB [.new (bs.map PyData.bool)]=rt (.d (.bool (bs.all id))):=by
 unfold qB;simp only [oC,aP,ay,zC]
noncomputable def bt (m c:Int) (p:Int×Int):Bool:=decide (1<=p.1)&&decide (p.1<=m)&&(decide (0<=p.2)&&decide (p.2<c))
noncomputable def hs (C:Addr) (m c:Int):DV:=.ob C [("most",.int m),("colours",.int c)]
theorem kf (C:Addr) (m c:Int):BQ C "most" (hs C m c)=rt (.d (.int m)):=by
 show (if C=C then bd (op (List.lookup ("most" : Str) [(("most" : Str),PyData.int m),("colours",.int c)])) fun d=>rt (DV.d d) else none)=_;rw [if_pos rfl,List.lookup_cons];simp only [beq_self_eq_true];rfl
theorem iD (C:Addr) (m c:Int):BQ C "colours" (hs C m c)=rt (.d (.int c)):=by
 show (if C=C then bd (op (List.lookup ("colours" : Str) [(("most" : Str),PyData.int m),("colours",.int c)])) fun d=>rt (DV.d d) else none)=_;rw [if_pos rfl,List.lookup_cons];have h:(("colours" : Str) == "most")=false:=by decide +kernel
 rw [h];simp only [List.lookup_cons,beq_self_eq_true];rfl
theorem Ee (C:Addr) (m c:Int) (r:List DV):args (hs C m c::r)=(args r).map (hs C m c::·):=oH _ _ _
theorem AW (C:Addr) (m c:Int) (p:Int×Int):bW C [hs C m c,.d (pr p)]=rt (.d (.bool (bt m c p))):=by
 unfold bW rU;walk_at "py";have g0:bz (.d (pr p)) (.d (.int 0))=rt (.d (.int p.1)):=aH rfl;have g1:bz (.d (pr p)) (.d (.int 1))=rt (.d (.int p.2)):=aH rfl;rw [g0,g1,kf,iD];walk_at "py";rfl
noncomputable def gO (ps:List (Int×Int)):Bool:=(List.range (ps.length-1)).all fun k=>le (ps.getD k (0,0)) (ps.getD (k+1) (0,0))
variable {k:Nat}
theorem Bx {α:Type} {xs:List α} (h:k<xs.length) (d:α):atI xs (k:Int)=some (xs.getD k d):=by
 unfold atI Cy;rw [if_pos 0x1,if_pos 0x1];simp [h]
variable {ps:List (Int×Int)}
theorem Cq (h:k<ps.length):atI (ps.map pr) (k:Int)=some (pr (ps.getD k (0,0))):=by
 rw [xW,Bx h (0,0)];rfl
variable {d:D}
theorem AB {lo:Int} {n:Nat} (h:d∈dS lo n):∃i:Nat,i<n/\d=.int (lo+(i:Int)):=by
 unfold dS at h;obtain ⟨i,hi,e⟩:=Ll.mp h;exact ⟨i,Ln.mp hi,e.symm⟩
theorem wU (ps:List (Int×Int)):cH (ar 0) bN (e2 kg (e2 bz (af 1) (e2 gSub (af 0) (eC (.int 1)))) (e2 bz (af 1) (af 0))) (cK 1 [0] [some (.d (.list (ps.map pr)))]) (dS 1 ((ps.length:Int)-1).toNat)=some (((List.range (ps.length-1)).map fun k=>le (ps.getD k (0,0)) (ps.getD (k+1) (0,0))).map PyData.bool):=by
 rw [vk (g:=fun d=>match d with|.int i=>.bool (le (ps.getD (i-1).toNat (0,0)) (ps.getD i.toNat (0,0)))|_=>.none)]
 ·have hn:((ps.length:Int)-1).toNat=ps.length-1:=by lia
  rw [hn];unfold dS;rw [List.map_map,List.map_map];congr 1;refine List.map_congr_left fun k hk=>?_;show PyData.bool (le (ps.getD (1+(k:Int)-1).toNat (0,0)) (ps.getD (1+(k:Int)).toNat (0,0)))=_;have e1:(1+(k:Int)-1).toNat=k:=by lia
  have e2:(1+(k:Int)).toNat=k+1:=by lia
  rw [e1,e2];rfl
 ·intro d hd;obtain ⟨i,hi,rfl⟩:=AB hd;unfold cK;walk_at "py";have hi2:i+1<ps.length:=by lia
  have e1:(1+(i:Int)-1)=(i:Int):=by lia
  have e2:(1+(i:Int))=((i+1:Nat):Int):=by lia
  rw [e1,e2,oF (Cq 0x1),oF (Cq hi2)];walk_at "py";rw [En];have e3:((i+1:Nat):Int)-1=(i:Int):=by lia
  simp only [e3,Int.toNat_natCast]
theorem hJ (ps:List (Int×Int)):c6 [.d (.list (ps.map pr))]=rt (.d (.int (ps.length:Int))):=by
 show rt (DV.d (.int ((ps.map pr).length:Int)))=_;rw [List.length_map]
variable {δ:DS}
theorem iX {fr:DS->M (List DV)} (h:fr δ=rt [.d (.int i),.d (.int j)]) (hi:-1000<=i) (Oo:i<=1000) (hj:-1000<=j) (NZ:j<=1000):mv fr δ=rt (dS i (j-i).toNat):=by
 unfold mv;rw [h];exact if_pos ⟨0x1,0x1,0x1,0x1⟩
theorem iQ {fr:DS->M (List DV)} (h:fr δ=rt [.d (.int j)]) (hj:-1000<=j) (NZ:j<=1000):rS fr δ=rt (dS 0 j.toNat):=by
 unfold rS;rw [h];exact if_pos ⟨0x1,0x1⟩
theorem br {js:List Nat} {fi:DS->M (List D)} {sf:D->DS->Option DS} {gc:DS->M Bool} {fe:DS->M DV} {ys:List D} (h1:fi δ=rt xs) (h2:xs.length<=1000000) (h3:cH sf gc fe (cK k js δ) xs=some ys):aU k js fi sf gc fe δ=rt (.new ys):=by
 unfold aU;rw [h1,ay,if_pos h2,h3];rfl
theorem Dt (ps:List (Int×Int)) (hl:ps.length<=1000):dq [.d (.list (ps.map pr))]=rt (.d (.bool (gO ps))):=by
 unfold dq km;walk_at "py";rw [br (iX (i:=1) (j:=(ps.length:Int)) (by walk_at "py"; rw [hJ]; walk_at "py") 0x1 0x1 0x1 0x1) (by rw [d6]; lia) (wU ps)];walk_at "py";rw [ow];walk_at "py";unfold gO;rw [List.all_map];rfl
local macro_rules|`(tactic| walk_at "py")=>`(tactic| simp only [eT,m9,bE,aK,bx,gk,b9,CI,o5,G6,af,eC,e2,aa,ai,bj,cw,aR,aw,L3.args_nil,vY,oH,pS,pL,mD,sM,mF,Option.map_some,ay,z5,tw,aP,wM,wd,wj,wq,sR,sE,AK,tm,sO,wu,vJ,r9,pX,oV,xC,gm,kh,yw,m5,Kd,Cr,zM,gY,List.map_cons,List.map_nil,List.length_cons,List.length_nil,List.replicate,List.cons_append,List.nil_append,List.append_nil,List.getElem?_cons_zero,List.getElem?_cons_succ,List.set_cons_zero,List.set_cons_succ,Option.join_some,Nat.reduceAdd,Nat.reduceSub,Nat.reduceLeDiff,Nat.reduceEqDiff,if_true,if_false,ite_true,ite_false,Bool.not_true,Bool.not_false,Bool.false_eq_true,Nat.zero_add,yA,oA,xT,oE,oC,rR,tT,sG,cZ,pE,cM,sk,rX,ka,iL,fH,g7,BF,yC,AU,Ar])
theorem du {α:Type} {f:α->D} {fe:DS->M DV} {δ:DS} {g:α->D}:∀{as:List α},(∀a∈as,fe (δ.set 0 (some (.d (f a))))=rt (.d (g a)))->cH (ar 0) bN fe δ (as.map f)=some (as.map g)
 |[],_=>rfl
 |a::r,h=>by
  have h1:=h a K5;have ih:=du (as:=r) fun e he=>h e (K3 _ he);rw [List.map_cons,List.map_cons];unfold cH;simp only [ar,bN,rt];rw [h1,ih];rfl
noncomputable def mR (ps:List (Int×Int)) (p:Int×Int):Int:=(((ps.map pr).countP fun z=>PyData.eqv z (pr p):Nat):Int)
theorem AE (ps:List (Int×Int)) (p:Int×Int):sV (.d (.list (ps.map pr))) (.d (pr p))=rt (.d (.int (mR ps p))):=by
 unfold sV mR;exact if_pos (show (pr p).depth<=60 from (by decide:1<=60))
theorem Au (ps:List (Int×Int)) (p:Int×Int):sV (.own (ps.map pr)) (.d (pr p))=rt (.d (.int (mR ps p))):=by
 unfold sV mR;exact if_pos (show (pr p).depth<=60 from (by decide:1<=60))
noncomputable def tok (m c:Int) (ps:List (Int×Int)) (p:Int×Int):Bool:=bt m c p&&decide (mR ps p<=2)
theorem zg (C:Addr) (m c j:Int) (ps:List (Int×Int)) :
  cH (ar 0) bN (m5 (aR (aw 2 (bW C)) (aa (af 1) (aa (af 0) ai))) (e2 kg (pA (af 2) (af 0)) (eC (.int 2)))) (cK 1 [0,1] [some (hs C m c),some (.d (.list (ps.map pr))),some (.d (.int j))]) (ps.map pr)=some ((ps.map (tok m c ps)).map PyData.bool):=by
 rw [List.map_map];refine du fun p hp=>?_;unfold cK;walk_at "py";unfold pA;walk_at "py";simp only [Ee];walk_at "py";rw [AW,AE];walk_at "py";rfl
noncomputable def jok (j:Int):Bool:=decide (0<=j)&&decide (j<=2)
noncomputable def mQ (m c:Int) (ps:List (Int×Int)) (j:Int):Bool:=decide (ps.length<=12)&&jok j&&(ps.map (tok m c ps)).all id&&gO ps
theorem fC {f:DS->M DV} (h:f δ=rt (.d (.list xs))):hX f δ=rt xs:=by
 unfold hX;rw [h];rfl
theorem Ba (y z:DV) (x:D) (fo:List DV->M DV) (b:Bool) (h:fo [.d x]=rt (.d (.bool b))):bd (bd (rt (Out.nx [some y,some (.d x),some z])) (JC (bx (aR (aw 1 fo) (aa (af 1) ai))))) zp=rt (.d (.bool b)):=by
 walk_at "py";rw [h];walk_at "py"
theorem Ho (C:Addr) (m c j:Int) (ps:List (Int×Int)) (hl:ps.length<=1000):gZ C [hs C m c,.d (.list (ps.map pr)),.d (.int j)]=rt (.d (.bool (mQ m c ps j))):=by
 have ho:=Dt ps hl;unfold gZ rj;generalize dq=fo at ho ⊢;walk_at "py";rw [hJ];walk_at "py";have ej:(decide (0<=j)&&decide (j<=2))=jok j:=rfl;have el:(decide ((12:Int)<(ps.length:Int)))=!decide (ps.length<=12):=by
  by_cases h:ps.length<=12
  ·rw [Lz h,Ly 0x1]; rfl
  ·rw [Ly h,Lz 0x1]; rfl
 rw [ej,el];unfold mQ;cases h12:decide (ps.length<=12) with
 |false=>
  simp only [Bool.not_false,Bool.true_or,if_true,Bool.false_and];walk_at "py"
 |true=>
  cases hj:jok j with
  |false=>
   simp only [Bool.not_true,Bool.not_false,Bool.false_or,if_true,Bool.and_false,Bool.false_and];walk_at "py"
  |true=>
   simp only [Bool.not_true,Bool.false_or,Bool.false_eq_true,if_false,Bool.true_and];walk_at "py";rw [br (fC rfl) (by rw [List.length_map]; lia) (zg C m c j ps)];walk_at "py";rw [ow];walk_at "py";cases ha:(ps.map (tok m c ps)).all id with
   |false=>
    simp only [Bool.not_false,if_true,Bool.false_and];walk_at "py"
   |true=>
    simp only [Bool.not_true,Bool.false_eq_true,if_false,Bool.true_and];exact Ba _ _ _ _ _ ho
theorem zY:∀{l:List D},(∀x∈l,∃p,pr p=x)->∃qs:List (Int×Int),l=qs.map pr
 |[],_=>⟨[],rfl⟩
 |x::r,h=>by
  obtain ⟨p,hp⟩:=h x K5;obtain ⟨qs,hq⟩:=zY (l:=r) fun y hy=>h y (K3 _ hy);exact ⟨p::qs,by rw [List.map_cons,hp,hq]⟩
theorem Dz (ps:List (Int×Int)):∃qs:List (Int×Int),DF (ps.map pr)=qs.map pr/\qs.length=ps.length:=by
 obtain ⟨qs,hq⟩:=zY (l:=DF (ps.map pr)) fun x hx=>by
  obtain ⟨p,_,e⟩:=Ll.mp ((jz _).mem_iff.mp hx);exact ⟨p,e⟩
 refine ⟨qs,hq,?_⟩;have:=(jz (ps.map pr)).length_eq;rw [hq,List.length_map,List.length_map] at this;exact this
theorem Hf (ps:List (Int×Int)):(ps.map pr).all (fun y=>(kT y).isSome&&decide ((kO y).length≠0))=true:=by
 rw [List.all_map,List.all_eq_true];intro p _;rfl
theorem DH {x:DV} (hx:ma x=some (ps.map pr)) (hl:ps.length<64):sN [x]=rt (.new (DF (ps.map pr))):=by
 unfold sN;simp only [hx,aP,ay];exact if_pos ⟨by rw [List.length_map]; exact hl,Hf ps⟩
theorem EA (h:L3.Ord (ps.map pr)):gO ps=true:=by
 unfold L3.Ord at h;rw [List.pairwise_map,List.pairwise_iff_getElem] at h;unfold gO;rw [List.all_eq_true];intro k hk;have hk:=Ln.mp hk;have:=h k (k+1) 0x1 0x1 0x1;unfold le;have e1:ps.getD k (0,0)=ps[k]'0x1:=by simp [show k<ps.length by lia]
 have e2:ps.getD (k+1) (0,0)=ps[k+1]'0x1:=by simp [show k+1<ps.length by lia]
 rw [e1,e2];have this':ll [(ps[k+1]'0x1).1,(ps[k+1]'0x1).2] [(ps[k]'0x1).1,(ps[k]'0x1).2]=false:=this;rw [this'];rfl
theorem Ek (neg:Bool) (ps qs:List (Int×Int)) (x:DV) (hx:nz x=some (.list (qs.map pr))):iG neg (.d (.list (ps.map pr))) x=rt (.d (.bool (if neg=true then !decide (ps=qs) else decide (ps=qs)))):=by
 unfold iG;rw [hx];simp only [rR];have hd:(PyData.list (ps.map pr)).depth<=60:=by
  have:=rL ps;unfold PyData.depth;lia
 rw [if_pos hd];have he:PyData.eqv (.list (ps.map pr)) (.list (qs.map pr))=decide (ps=qs):=yn ps qs;rw [he]
section
variable {F G:DS->M Out} {f fa fb fc:DS->M DV} {fr:DS->M (List DV)} {gc:DS->M Bool} {g:DV->DV->M DV} {δ δ':DS} {x y z:DV} {k:Bool}
theorem cj (h:F δ=rt (.nx δ')):bE F G δ=G δ':=by unfold bE; rw [h]; rfl
theorem qM (h:F δ=rt (.rt x)):bE F G δ=rt (.rt x):=by unfold bE; rw [h]; rfl
theorem mm (h:gc δ=rt k):gk gc F G δ=if k=true then F δ else G δ:=by unfold gk; rw [h]; rfl
theorem iH {i:Nat} (h:f δ=rt x) (ha:va x=some y):aK i f δ=rt (.nx (δ.set i (some y))):=by unfold aK; rw [h,ay,ha]; rfl
theorem bD (h:f δ=rt x):bx f δ=rt (.rt x):=by unfold bx; rw [h]; rfl
theorem av (h1:fa δ=rt x) (h2:fb δ=rt y):e2 g fa fb δ=g x y:=by unfold e2; rw [h1,ay,h2]; rfl
theorem bp (h1:fa δ=rt x):aa fa ai δ=rt [x]:=by unfold aa; rw [h1]; rfl
theorem bQ (h1:fa δ=rt x) (h2:fb δ=rt y):aa fa (aa fb ai) δ=rt [x,y]:=by
 have:=bp h2;unfold aa at this ⊢;rw [h1,ay,this]; rfl
theorem gw (h1:fa δ=rt x) (h2:fb δ=rt y) (h3:fc δ=rt z):aa fa (aa fb (aa fc ai)) δ=rt [x,y,z]:=by
 have:=bQ h2 h3;unfold aa at this ⊢;rw [h1,ay,this]; rfl
theorem cC {G:List DV->M DV} {xs:List DV} (h:fr δ=rt xs):aR G fr δ=G xs:=by unfold aR; rw [h]; rfl
theorem aV {n:Nat} {fm:List DV->M DV} {xs ys:List DV} (h:fr δ=rt xs) (ha:args xs=some ys) (hn:ys.length=n) (hm:fm ys=rt x):aR (aw n fm) fr δ=rt x:=by
 rw [cC h];unfold aw;rw [ha,aP,ay,if_pos hn,hm]; rfl
theorem jv {a b:D} (h1:fa δ=rt (.d a)) (h2:fb δ=rt (.d b)):bj (aa fa (aa fb ai)) δ=rt (.d (.tuple [a,b])):=by
 unfold bj;rw [bQ h1 h2];rfl
theorem bf {b:Bool} (h:f δ=rt (.d (.bool b))):(fun δ=>bd (f δ) bR) δ=rt b:=by
 show bd (f δ) bR=_;rw [h]; rfl
theorem HH {ga gb:DS->M Bool} {a b:Bool} (h1:ga δ=rt a) (h2:gb δ=rt b):kh ga gb δ=rt (a&&b):=by
 unfold kh;rw [h1,ay,h2,yC]
theorem sY {ga:DS->M Bool} {a:Bool} (h1:ga δ=rt a):gm ga δ=rt (!a):=by
 unfold gm;rw [h1,ay]
theorem vS {cell k many:Int} (h1:fa δ=rt (.d (.int cell))) (h2:fb δ=rt (.d (.int k))) (h3:fc δ=rt (.d (.int many))) (hm:0<many):∃r,aR (aw 3 az) (aa fa (aa fb (aa fc ai))) δ=rt (.d (.int r))/\0<=r/\r<many:=by
 obtain ⟨r,h,h0,hr⟩:=uT cell k many hm;exact ⟨r,aV (gw h1 h2 h3) rfl rfl h,h0,hr⟩
theorem xl {K:Li} {ns:List Int} {k:Int} (h1:fa δ=rt (.scr K ns)) (h2:fb δ=rt (.d (.int k))) (hk:0<=k):aR (aw 2 (aG K)) (aa fa (aa fb ai)) δ=rt (.d (.int (bw ns k))):=
 aV (bQ h1 h2) rfl rfl (Bi K ns k hk)
theorem vQ {i:Nat} (hi:δ[i]?=some (some (.own xs))) (h:f δ=rt x) (hd:uh x=some d) (hl:xs.length<1000000):kj i f δ=rt (.nx (δ.set i (some (.own (xs++[d]))))):=by
 unfold kj;rw [hi];simp only;rw [h,ay,hd,aP,ay,if_pos hl]
theorem Ci {ys:List D} (h0:Aw x y=none) (hx:ma x=some xs) (hy:ma y=some ys) (hl:xs.length+ys.length<=1000000):a9 x y=rt (.new (xs++ys)):=by
 unfold a9 CK;rw [h0];unfold Cv;rw [hx,hy];exact if_pos hl
end
theorem oM (ps:List (Int×Int)):c6 [.own (ps.map pr)]=rt (.d (.int (ps.length:Int))):=by
 show rt (DV.d (.int ((ps.map pr).length:Int)))=_;rw [List.length_map]
theorem l5 (a b:Int):iG false (.d (.int a)) (.d (.int b))=rt (.d (.bool (a==b))):=rfl
noncomputable def tB:DS->M Out:=gk (kh (fun δ=>bd (e2 hW (pA (af 2) (af 3)) (eC (.int 2)) δ) bR) (fun δ=>bd (e2 hW (aR c6 (aa (af 2) ai)) (af 1) δ) bR)) (kj 2 (af 3)) b9
theorem GS {fo fe:DS->M DV} {x y:DV} (h1:fo δ=rt x) (hx:ma x=some xs) (h2:fe δ=rt y):pA fo fe δ=sV x y:=by
 unfold pA;rw [h1,ay,hx,aP,ay,h2,ay]
noncomputable def hB (K:Li):DS->M Out:=(bE (aK 7 (aR (aw 2 (aG K)) (aa (af 0) (aa (e2 a9 (af 1) (af 6)) ai)))) (bE (CI (kP 2 (cJ (ar 8) (cJ (ar 9) lS))) (bj (aa (e2 a9 (eC (.int 1)) (aR (aw 3 (az)) (aa (af 7) (aa (eC (.int 1)) (aa (af 2) ai))))) (aa (aR (aw 3 (az)) (aa (af 7) (aa (eC (.int 2)) (aa (af 3) ai)))) ai)))) (bE (aK 10 (e2 a9 (eC (.int 2)) (aR (aw 3 (az)) (aa (af 7) (aa (eC (.int 3)) (aa (eC (.int 4)) ai)))))) (bE (gk (fun δ=>bd (e2 (iG false) (aR (aw 3 (az)) (aa (af 7) (aa (eC (.int 4)) (aa (eC (.int 2)) ai)))) (eC (.int 0)) δ) bR) (aK 5 (e2 a9 (af 5) (aU 1 [9] (mv (aa (af 8) (aa (e2 a9 (aR ze (aa (af 2) (aa (e2 gSub (e2 a9 (af 8) (af 10)) (eC (.int 1))) ai))) (eC (.int 1))) ai))) (ar 0) bN (bj (aa (af 0) (aa (af 1) ai)))))) (aK 5 (e2 a9 (af 5) (aU 1 [8,7] (rS (aa (af 3) ai)) (ar 0) (fun δ=>bd (e2 wz (aR (aw 3 (az)) (aa (af 2) (aa (e2 a9 (eC (.int 10)) (af 0)) (aa (eC (.int 4)) ai)))) (eC (.int 0)) δ) bR) (bj (aa (af 1) (aa (af 0) ai))))))) (gk (fun δ=>bd (e2 (iG false) (aR (aw 3 (az)) (aa (af 7) (aa (eC (.int 5)) (aa (eC (.int 3)) ai)))) (eC (.int 0)) δ) bR) (kj 5 (bj (aa (e2 a9 (eC (.int 1)) (aR (aw 3 (az)) (aa (af 7) (aa (eC (.int 6)) (aa (af 2) ai))))) (aa (aR (aw 3 (az)) (aa (af 7) (aa (eC (.int 7)) (aa (af 3) ai)))) ai)))) b9)))))
section
variable (K:Li) (ns:List Int) (m c st lim:Int)
noncomputable def hδ (ts:List (Int×Int)) (x6 x7 x8 x9 x10:Option DV):DS:=[some (.scr K ns),some (.d (.int st)),some (.d (.int m)),some (.d (.int c)),some (.d (.int lim)),some (.own (ts.map pr)),x6,x7,x8,x9,x10]
theorem eF {α:Type} {f:α->D} {gc:DS->M Bool} {fe:DS->M DV} {δ:DS} {b:α->Bool} {g:α->D}:∀{as:List α},(∀a∈as,gc (δ.set 0 (some (.d (f a))))=rt (b a)/\fe (δ.set 0 (some (.d (f a))))=rt (.d (g a)))->cH (ar 0) gc fe δ (as.map f)=some ((as.filter b).map g)
 |[],_=>rfl
 |a::r,h=>by
  obtain ⟨h1,h2⟩:=h a K5;have ih:=eF (as:=r) fun e he=>h e (K3 _ he);rw [List.map_cons];unfold cH;simp only [ar];rw [h1];cases hb:b a with
  |false=>
   rw [List.filter_cons_of_neg (by simp [hb])];exact ih
  |true=>
   rw [List.filter_cons_of_pos hb];simp only [rt];rw [h2,ih];rfl
theorem Fx {sf:D->DS->Option DS} {f:DS->M DV} {δ':DS} {x:DV} (h:f δ=rt x) (hd:uh x=some d) (hs:sf d δ=some δ'):CI sf f δ=rt (.nx δ'):=by
 unfold CI;rw [h,ay,hd,aP,ay,hs];rfl
variable {m c}
end
theorem Dx (fs:List (Int×Int)) (p z:Int×Int):mR (fs++[p]) z=mR fs z+(if p=z then 1 else 0):=by
 unfold mR;rw [List.map_append,List.countP_append];simp only [List.map_cons,List.map_nil,List.countP_cons,List.countP_nil,mZ];by_cases h:p=z <;> simp [h]
theorem wI (T:Option DV) (lim:Int) (fs:List (Int×Int)) (p:Int×Int) (hl:fs.length<=1000) :
  ∃N4:List (Int×Int),tB [T,some (.d (.int lim)),some (.own (fs.map pr)),some (.d (pr p))]=rt (.nx [T,some (.d (.int lim)),some (.own (N4.map pr)),some (.d (pr p))])/\((N4=fs)\/(N4=fs++[p]/\mR fs p<2/\(fs.length:Int)<lim)):=by
 have c1:pA (af 2) (af 3) [T,some (.d (.int lim)),some (.own (fs.map pr)),some (.d (pr p))]=rt (.d (.int (mR fs p))):=(GS rfl rfl rfl).trans (Au fs p);have c2:aR c6 (aa (af 2) ai) [T,some (.d (.int lim)),some (.own (fs.map pr)),some (.d (pr p))]=rt (.d (.int (fs.length:Int))):=(cC (bp rfl)).trans (oM fs);have t1:(kh (fun δ=>bd (e2 hW (pA (af 2) (af 3)) (eC (.int 2)) δ) bR) (fun δ=>bd (e2 hW (aR c6 (aa (af 2) ai)) (af 1) δ) bR)) [T,some (.d (.int lim)),some (.own (fs.map pr)),some (.d (pr p))]=rt (decide (mR fs p<2)&&decide ((fs.length:Int)<lim)):=by
  exact HH (bf ((av (y:=.d (.int 2)) c1 rfl).trans (fH _ _))) (bf ((av (y:=.d (.int lim)) c2 rfl).trans (fH _ _)))
 unfold tB;rw [mm t1];by_cases h:(decide (mR fs p<2)&&decide ((fs.length:Int)<lim))=true
 ·rw [if_pos h];refine ⟨fs++[p],?_,.inr ⟨rfl,?_⟩⟩
  ·rw [vQ (xs:=fs.map pr) (x:=.d (pr p)) (d:=pr p) rfl rfl rfl (by rw [List.length_map]; lia)];rw [List.map_append];rfl
  ·rw [Bool.and_eq_true] at h;exact ⟨of_decide_eq_true h.1,of_decide_eq_true h.2⟩
 ·rw [if_neg h];exact ⟨fs,rfl,.inl rfl⟩
theorem pT (P:Int×Int->Prop) (T:Option DV) (lim:Int) (h1:0<=lim) (h2:lim<=900):∀(qs fs:List (Int×Int)) (x:Option DV),(fs.length:Int)<=lim->(∀p∈fs,P p)->(∀p∈qs,P p)->(∀p,mR fs p<=2) ->
  ∃(N4:List (Int×Int)) (x':Option DV),dw (ar 3) tB (qs.map pr) [T,some (.d (.int lim)),some (.own (fs.map pr)),x]=rt (.nx [T,some (.d (.int lim)),some (.own (N4.map pr)),x'])/\(N4.length:Int)<=lim/\(∀p∈N4,P p)/\(∀p,mR N4 p<=2)
 |[],fs,x,hf,hP,_,hC=>⟨fs,x,rfl,hf,hP,hC⟩
 |p::qs,fs,x,hf,hP,hQ,hC=>by
  obtain ⟨fs1,e1,h⟩:=wI T lim fs p 0x1;have hf1:(fs1.length:Int)<=lim:=by
   rcases h with h|⟨h,_,h'⟩
   ·rw [h]; exact hf
   ·rw [h,List.length_append,List.length_singleton]; lia
  have hP1:∀p∈fs1,P p:=by
   rcases h with h|⟨h,_,h'⟩
   ·rw [h]; exact hP
   ·rw [h];intro z hz;rcases Lk.mp hz with hz|hz
    ·exact hP z hz
    ·rw [Lm.mp hz]; exact hQ p K5
  have hC1:∀p,mR fs1 p<=2:=by
   rcases h with h|⟨h,hc,h'⟩
   ·rw [h]; exact hC
   ·rw [h];intro z;rw [Dx];split
    ·rename_i hz; rw [<-hz]; lia
    ·have:=hC z; lia
  obtain ⟨fs2,x2,e2,NX⟩:=pT P T lim h1 h2 qs fs1 (some (.d (pr p))) hf1 hP1 (fun z hz=>hQ z (K3 _ hz)) hC1;refine ⟨fs2,x2,?_,NX⟩;rw [List.map_cons];unfold dw;have hs:ar 3 (pr p) [T,some (.d (.int lim)),some (.own (fs.map pr)),x]=some [T,some (.d (.int lim)),some (.own (fs.map pr)),some (.d (pr p))]:=rfl;rw [hs,aP,ay,e1,ay,kY];exact e2
theorem DD (P:Int×Int->Prop) (ps:List (Int×Int)) (hps:∀p∈ps,P p) (lim:Int) (h1:0<=lim) (h2:lim<=12):∃qs:List (Int×Int),cm [.d (.list (ps.map pr)),.d (.int lim)]=rt (.new (qs.map pr))/\(qs.length:Int)<=lim/\(∀p∈qs,P p)/\(∀p,mR qs p<=2)/\gO qs=true:=by
 obtain ⟨fs,x,e,hf,hP,hC⟩:=pT P (some (.d (.list (ps.map pr)))) lim h1 0x1 ps [] none (by simpa using h1) 0x4 hps (fun p=>by show (0:Int)<=2; decide);obtain ⟨qs,hq,hl⟩:=Dz fs;have Oh:(qs.map pr).Perm (fs.map pr):=by rw [<-hq]; exact jz _
 refine ⟨qs,?_,0x1,fun p hp=>?_,fun p=>?_,?_⟩
 rotate_left
 ·obtain ⟨z,hz,e⟩:=Ll.mp (Oh.mem_iff.mp (List.mem_map_of_mem hp));rw [<-Gj e]; exact hP z hz
 ·have:mR qs p=mR fs p:=by unfold mR; rw [Oh.countP_eq]
  rw [this]; exact hC p
 ·exact EA (by rw [<-hq]; exact tX _)
 unfold cm jG eT;have s1:aK 2 (cw ai) [some (.d (.list (ps.map pr))),some (.d (.int lim)),none,none]=rt (.nx [some (.d (.list (ps.map pr))),some (.d (.int lim)),some (.own []),none]):=rfl;have s2:cG (hX (af 0)) (ar 3) tB [some (.d (.list (ps.map pr))),some (.d (.int lim)),some (.own []),none]=rt (.nx [some (.d (.list (ps.map pr))),some (.d (.int lim)),some (.own (fs.map pr)),x]):=by
  unfold cG;rw [fC (xs:=ps.map pr) rfl,ay];exact e
 have s3:bx (aR sN (aa (af 2) ai)) [some (.d (.list (ps.map pr))),some (.d (.int lim)),some (.own (fs.map pr)),x]=rt (.rt (.new (qs.map pr))):=by
  refine bD ((cC (bp (x:=.own (fs.map pr)) rfl)).trans ?_);rw [DH (ps:=fs) rfl 0x1,hq]
 have hd:m9 ["tiles", "limit", "found", "tile"] [.d (.list (ps.map pr)),.d (.int lim)]=[some (.d (.list (ps.map pr))),some (.d (.int lim)),none,none]:=rfl;rw [hd,show (gk (kh (fun δ=>bd (e2 hW (pA (af 2) (af 3)) (eC (.int 2)) δ) bR) (fun δ=>bd (e2 hW (aR c6 (aa (af 2) ai)) (af 1) δ) bR)) (kj 2 (af 3)) b9)=tB from rfl];rw [cj s1,cj s2,s3];rfl
section
variable (K:Li) (ns:List Int) (m c st lim:Int)
theorem zd (δ:DS) (num hi col:Int) (h0:0<=num) (h1:num<=20) (h2:hi<=20) (h3:-5<=hi) (hd:δ[9]?=some (some (.d (.int col)))) {fi:DS->M (List DV)} (hf:fi δ=rt [.d (.int num),.d (.int hi)]) :
  ∃qs:List (Int×Int),aU 1 [9] (mv fi) (ar 0) bN (bj (aa (af 0) (aa (af 1) ai))) δ=rt (.new (qs.map pr))/\qs.length<=20/\(∀p∈qs,p.2=col/\num<=p.1/\p.1<hi):=by
 refine ⟨(List.range (hi-num).toNat).map fun (k:Nat)=>(num+(k:Int),col),?_,by simp; lia,fun p hp=>?_⟩
 rotate_left
 ·obtain ⟨k,hk,rfl⟩:=Ll.mp hp;have:=Ln.mp hk;exact ⟨rfl,by show num<=num+(k:Int); lia,by show num+(k:Int)<hi; lia⟩
 refine br (iX hf 0x1 0x1 0x1 0x1) (by rw [d6]; lia) ?_;unfold dS cK;rw [List.map_map];refine du fun k hk=>?_;have e:([9].map fun j=>(δ[j]?).join)=[some (.d (.int col))]:=by
  simp only [List.map_cons,List.map_nil,hd,Option.join_some]
 rw [e];exact jv rfl rfl
theorem zc (δ:DS) (num cell:Int) (h1:c<=10) (h0:0<=c) (hd8:δ[8]?=some (some (.d (.int num)))) (hd7:δ[7]?=some (some (.d (.int cell)))) {fi:DS->M (List DV)} (hf:fi δ=rt [.d (.int c)]) :
  ∃qs:List (Int×Int),aU 1 [8,7] (rS fi) (ar 0) (fun δ=>bd (e2 wz (aR (aw 3 (az)) (aa (af 2) (aa (e2 a9 (eC (.int 10)) (af 0)) (aa (eC (.int 4)) ai)))) (eC (.int 0)) δ) bR) (bj (aa (af 1) (aa (af 0) ai))) δ=rt (.new (qs.map pr))/\qs.length<=20/\(∀p∈qs,p.1=num/\0<=p.2/\p.2<c):=by
 have hmix:∀k:Int,∃r,az [.d (.int cell),.d (.int k),.d (.int 4)]=rt (.d (.int r)):=fun k=>let ⟨r,h,_⟩:=uT cell k 4 0x3; ⟨r,h⟩
 let mx:Int->Int:=fun k=>(hmix k).choose
 have hmx:∀k,az [.d (.int cell),.d (.int k),.d (.int 4)]=rt (.d (.int (mx k))):=fun k=>(hmix k).choose_spec;refine ⟨((List.range c.toNat).filter fun (k:Nat)=>decide (0<mx (10+(0+(k:Int))))).map fun (k:Nat)=>(num,0+(k:Int)),?_,?_,fun p hp=>?_⟩
 ·refine br (iQ hf 0x1 0x1) (by rw [d6]; lia) ?_;unfold dS cK;have e:([8,7].map fun j=>(δ[j]?).join)=[some (.d (.int num)),some (.d (.int cell))]:=by
   simp only [List.map_cons,List.map_nil,hd8,hd7,Option.join_some]
  rw [e,List.map_map];refine eF fun k hk=>⟨?_,jv rfl rfl⟩;exact bf ((av (y:=.d (.int 0)) (aV (gw (y:=.d (.int (10+(0+(k:Int))))) rfl ((av (x:=.d (.int 10)) (y:=.d (.int (0+(k:Int)))) rfl rfl).trans (cZ _ _)) rfl) rfl rfl (hmx (10+(0+(k:Int))))) rfl).trans (ka _ _))
 ·rw [List.length_map];have:=List.length_filter_le (fun (k:Nat)=>decide (0<mx (10+(0+(k:Int))))) (List.range c.toNat);rw [List.length_range] at this;lia
 ·obtain ⟨k,hk,rfl⟩:=Ll.mp hp;have:=Ln.mp (Lo.mp hk).1;exact ⟨rfl,by show (0:Int)<=0+(k:Int); lia,by show 0+(k:Int)<c; lia⟩
variable {m c}
theorem yV (hm:1<=m) (ND:m<=13) (hc:1<=c) (MG:c<=4) (k cell num col size:Int) (hcol:0<=col) (hcol':col<c) (hn:1<=num) (Oa:num<=m) (hs:2<=size) (NT:size<=5) (ts:List (Int×Int)) (hl:ts.length<=500) (hP:∀p∈ts,bt m c p=true) :
  ∃Mr:List (Int×Int),gk (fun δ=>bd (e2 (iG false) (aR (aw 3 (az)) (aa (af 7) (aa (eC (.int 4)) (aa (eC (.int 2)) ai)))) (eC (.int 0)) δ) bR) (aK 5 (e2 a9 (af 5) (aU 1 [9] (mv (aa (af 8) (aa (e2 a9 (aR ze (aa (af 2) (aa (e2 L3.gSub (e2 a9 (af 8) (af 10)) (eC (.int 1))) ai))) (eC (.int 1))) ai))) (ar 0) bN (bj (aa (af 0) (aa (af 1) ai)))))) (aK 5 (e2 a9 (af 5) (aU 1 [8,7] (rS (aa (af 3) ai)) (ar 0) (fun δ=>bd (e2 wz (aR (aw 3 (az)) (aa (af 2) (aa (e2 a9 (eC (.int 10)) (af 0)) (aa (eC (.int 4)) ai)))) (eC (.int 0)) δ) bR) (bj (aa (af 1) (aa (af 0) ai))))))
   (hδ K ns m c st lim ts (some (.d (.int k))) (some (.d (.int cell))) (some (.d (.int num))) (some (.d (.int col))) (some (.d (.int size))))=rt (.nx (hδ K ns m c st lim Mr (some (.d (.int k))) (some (.d (.int cell))) (some (.d (.int num))) (some (.d (.int col))) (some (.d (.int size)))))/\Mr.length<=ts.length+20/\(∀p∈Mr,bt m c p=true):=by
 obtain ⟨r,hr,_⟩:=vS (δ:=hδ K ns m c st lim ts (some (.d (.int k))) (some (.d (.int cell))) (some (.d (.int num))) (some (.d (.int col))) (some (.d (.int size)))) (fa:=af 7) (fb:=eC (.int 4)) (fc:=eC (.int 2)) (cell:=cell) (k:=4) (many:=2) rfl rfl rfl 0x3;rw [mm (bf ((av (y:=.d (.int 0)) hr rfl).trans (l5 _ _)))];have fin:∀(qs:List (Int×Int)) (f:DS->M DV),f (hδ K ns m c st lim ts (some (.d (.int k))) (some (.d (.int cell))) (some (.d (.int num))) (some (.d (.int col))) (some (.d (.int size))))=rt (.new (qs.map pr))->qs.length<=20 ->
   aK 5 (e2 a9 (af 5) f) (hδ K ns m c st lim ts (some (.d (.int k))) (some (.d (.int cell))) (some (.d (.int num))) (some (.d (.int col))) (some (.d (.int size))))=rt (.nx (hδ K ns m c st lim (ts++qs) (some (.d (.int k))) (some (.d (.int cell))) (some (.d (.int num))) (some (.d (.int col))) (some (.d (.int size))))):=fun qs f h hq=>by
  rw [iH (x:=.new (ts.map pr++qs.map pr)) (y:=.own (ts.map pr++qs.map pr)) ((av (x:=.own (ts.map pr)) (y:=.new (qs.map pr)) rfl h).trans (Ci (xs:=ts.map pr) (ys:=qs.map pr) rfl rfl rfl (by simp; lia))) rfl];unfold hδ;rw [List.map_append];rfl
 by_cases h:(r==0)=true
 ·rw [if_pos h];obtain ⟨qs,hq,hql,hqP⟩:=zd (hδ K ns m c st lim ts (some (.d (.int k))) (some (.d (.int cell))) (some (.d (.int num))) (some (.d (.int col))) (some (.d (.int size)))) num ((if num+size-1<m then num+size-1 else m)+1) col 0x1 0x1 (by split <;> lia) (by split <;> lia) rfl
   (fi:=aa (af 8) (aa (e2 a9 (aR ze (aa (af 2) (aa (e2 L3.gSub (e2 a9 (af 8) (af 10)) (eC (.int 1))) ai))) (eC (.int 1))) ai)) (bQ rfl (av (x:=.d (.int (if num+size-1<m then num+size-1 else m))) (y:=.d (.int 1)) (cC (bQ (x:=.d (.int m)) (y:=.d (.int (num+size-1))) rfl (av (x:=.d (.int (num+size))) (y:=.d (.int 1)) (av (x:=.d (.int num)) (y:=.d (.int size)) rfl rfl) rfl))) rfl))
  refine ⟨ts++qs,fin qs _ hq hql,by simp; lia,fun p hp=>?_⟩;rcases Lk.mp hp with hp|hp
  ·exact hP p hp
  ·obtain ⟨e1,e2,e3⟩:=hqP p hp;have hmin:(if num+size-1<m then num+size-1 else m)<=m:=by split <;> lia
   unfold bt; simp; lia
 ·rw [if_neg h];obtain ⟨qs,hq,hql,hqP⟩:=zc c (hδ K ns m c st lim ts (some (.d (.int k))) (some (.d (.int cell))) (some (.d (.int num))) (some (.d (.int col))) (some (.d (.int size)))) num cell 0x1 0x1 rfl rfl (fi:=aa (af 3) ai) (bp rfl);refine ⟨ts++qs,fin qs _ hq hql,by simp; lia,fun p hp=>?_⟩;rcases Lk.mp hp with hp|hp
  ·exact hP p hp
  ·obtain ⟨e1,e2,e3⟩:=hqP p hp;unfold bt; simp; lia
theorem yP (hm:1<=m) (ND:m<=13) (hc:1<=c) (MG:c<=4) (k cell:Int) (y8 y9 Mn:Option DV) (ts:List (Int×Int)) (hl:ts.length<=900) (hP:∀p∈ts,bt m c p=true) :
  ∃Mr:List (Int×Int),gk (fun δ=>bd (e2 (iG false) (aR (aw 3 (az)) (aa (af 7) (aa (eC (.int 5)) (aa (eC (.int 3)) ai)))) (eC (.int 0)) δ) bR) (kj 5 (bj (aa (e2 a9 (eC (.int 1)) (aR (aw 3 (az)) (aa (af 7) (aa (eC (.int 6)) (aa (af 2) ai))))) (aa (aR (aw 3 (az)) (aa (af 7) (aa (eC (.int 7)) (aa (af 3) ai)))) ai)))) b9
   (hδ K ns m c st lim ts (some (.d (.int k))) (some (.d (.int cell))) y8 y9 Mn)=rt (.nx (hδ K ns m c st lim Mr (some (.d (.int k))) (some (.d (.int cell))) y8 y9 Mn))/\Mr.length<=ts.length+1/\(∀p∈Mr,bt m c p=true):=by
 obtain ⟨r,hr,_⟩:=vS (δ:=hδ K ns m c st lim ts (some (.d (.int k))) (some (.d (.int cell))) y8 y9 Mn) (fa:=af 7) (fb:=eC (.int 5)) (fc:=eC (.int 3)) (cell:=cell) (k:=5) (many:=3) rfl rfl rfl 0x3;obtain ⟨r6,h6,a6,b6⟩:=vS (δ:=hδ K ns m c st lim ts (some (.d (.int k))) (some (.d (.int cell))) y8 y9 Mn) (fa:=af 7) (fb:=eC (.int 6)) (fc:=af 2) (cell:=cell) (k:=6) (many:=m) rfl rfl rfl 0x1;obtain ⟨r7,h7,a7,b7⟩:=vS (δ:=hδ K ns m c st lim ts (some (.d (.int k))) (some (.d (.int cell))) y8 y9 Mn) (fa:=af 7) (fb:=eC (.int 7)) (fc:=af 3) (cell:=cell) (k:=7) (many:=c) rfl rfl rfl 0x1;rw [mm (bf ((av (y:=.d (.int 0)) hr rfl).trans (l5 _ _)))];by_cases h:(r==0)=true
 ·rw [if_pos h];refine ⟨ts++[(1+r6,r7)],?_,0x4,fun p hp=>?_⟩
  rotate_left
  ·rcases Lk.mp hp with hp|hp
   ·exact hP p hp
   ·rw [Lm.mp hp];unfold bt; simp; lia
  rw [vQ (xs:=ts.map pr) (x:=.d (pr (1+r6,r7))) (d:=pr (1+r6,r7)) rfl (jv ((av (x:=.d (.int 1)) (y:=.d (.int r6)) rfl h6).trans (cZ _ _)) h7) rfl (by rw [List.length_map]; lia)];unfold hδ;rw [List.map_append];rfl
 ·rw [if_neg h];exact ⟨ts,rfl,0x1,hP⟩
theorem wX (hm:1<=m) (ND:m<=13) (hc:1<=c) (MG:c<=4) (k:Int) (hk:0<=k) (h0:0<=st) (ts:List (Int×Int)) (hl:ts.length<=500) (hP:∀p∈ts,bt m c p=true) (x7 x8 x9 x10:Option DV) :
  ∃(Mr:List (Int×Int)) (y7 y8 y9 Mn:Option DV),hB K (hδ K ns m c st lim ts (some (.d (.int k))) x7 x8 x9 x10)=rt (.nx (hδ K ns m c st lim Mr (some (.d (.int k))) y7 y8 y9 Mn))/\Mr.length<=ts.length+21/\(∀p∈Mr,bt m c p=true):=by
 have s7:aK 7 (aR (aw 2 (aG K)) (aa (af 0) (aa (e2 a9 (af 1) (af 6)) ai))) (hδ K ns m c st lim ts (some (.d (.int k))) x7 x8 x9 x10)=rt (.nx (hδ K ns m c st lim ts (some (.d (.int k))) (some (.d (.int (bw ns (st+k))))) x8 x9 x10)):=
  iH (y:=.d (.int (bw ns (st+k)))) (xl rfl ((av (x:=.d (.int st)) (y:=.d (.int k)) rfl rfl).trans (cZ _ _)) 0x1) rfl
 generalize bw ns (st+k)=cell at s7;obtain ⟨r1,h1,a1,b1⟩:=vS (δ:=hδ K ns m c st lim ts (some (.d (.int k))) (some (.d (.int cell))) x8 x9 x10) (fa:=af 7) (fb:=eC (.int 1)) (fc:=af 2) (cell:=cell) (k:=1) (many:=m) rfl rfl rfl 0x1;obtain ⟨r2,h2,a2,b2⟩:=vS (δ:=hδ K ns m c st lim ts (some (.d (.int k))) (some (.d (.int cell))) x8 x9 x10) (fa:=af 7) (fb:=eC (.int 2)) (fc:=af 3) (cell:=cell) (k:=2) (many:=c) rfl rfl rfl 0x1;have s89:CI (kP 2 (cJ (ar 8) (cJ (ar 9) lS))) (bj (aa (e2 a9 (eC (.int 1)) (aR (aw 3 (az)) (aa (af 7) (aa (eC (.int 1)) (aa (af 2) ai))))) (aa (aR (aw 3 (az)) (aa (af 7) (aa (eC (.int 2)) (aa (af 3) ai)))) ai)))
   (hδ K ns m c st lim ts (some (.d (.int k))) (some (.d (.int cell))) x8 x9 x10)=rt (.nx (hδ K ns m c st lim ts (some (.d (.int k))) (some (.d (.int cell))) (some (.d (.int (1+r1)))) (some (.d (.int r2))) x10)):=
  Fx (jv ((av (x:=.d (.int 1)) (y:=.d (.int r1)) rfl h1).trans (cZ _ _)) h2) rfl rfl
 obtain ⟨r3,h3,a3,b3⟩:=vS (δ:=hδ K ns m c st lim ts (some (.d (.int k))) (some (.d (.int cell))) (some (.d (.int (1+r1)))) (some (.d (.int r2))) x10) (fa:=af 7) (fb:=eC (.int 3)) (fc:=eC (.int 4)) (cell:=cell) (k:=3) (many:=4) rfl rfl rfl 0x3;have s10:aK 10 (e2 a9 (eC (.int 2)) (aR (aw 3 (az)) (aa (af 7) (aa (eC (.int 3)) (aa (eC (.int 4)) ai))))) (hδ K ns m c st lim ts (some (.d (.int k))) (some (.d (.int cell))) (some (.d (.int (1+r1)))) (some (.d (.int r2))) x10)=rt (.nx (hδ K ns m c st lim ts (some (.d (.int k))) (some (.d (.int cell))) (some (.d (.int (1+r1)))) (some (.d (.int r2))) (some (.d (.int (2+r3)))))):=
  iH (y:=.d (.int (2+r3))) ((av (x:=.d (.int 2)) (y:=.d (.int r3)) rfl h3).trans (cZ _ _)) rfl
 obtain ⟨ts1,s11,l1,P1⟩:=yV K ns st lim hm ND hc MG k cell (1+r1) r2 (2+r3) a2 b2 0x1 0x1 0x1 0x1 ts hl hP;obtain ⟨ts2,s12,l2,P2⟩:=yP K ns st lim hm ND hc MG k cell (some (.d (.int (1+r1)))) (some (.d (.int r2))) (some (.d (.int (2+r3)))) ts1 0x1 P1;refine ⟨ts2,some (.d (.int cell)),some (.d (.int (1+r1))),some (.d (.int r2)),some (.d (.int (2+r3))),?_,0x1,P2⟩;unfold hB;rw [cj s7,cj s89,cj s10,cj s11];exact s12
theorem o4 (hm:1<=m) (ND:m<=13) (hc:1<=c) (MG:c<=4) (Nl:0<=st):∀(ks:List Int) (ts:List (Int×Int)) (x6 x7 x8 x9 x10:Option DV),(∀k∈ks,0<=k)->ts.length+21*ks.length<=500->(∀p∈ts,bt m c p=true) ->
  ∃(Mr:List (Int×Int)) (y6 y7 y8 y9 Mn:Option DV),dw (ar 6) (hB K) (ks.map PyData.int) (hδ K ns m c st lim ts x6 x7 x8 x9 x10)=rt (.nx (hδ K ns m c st lim Mr y6 y7 y8 y9 Mn))/\Mr.length<=500/\(∀p∈Mr,bt m c p=true)
 |[],ts,x6,x7,x8,x9,x10,_,hl,hP=>⟨ts,x6,x7,x8,x9,x10,rfl,by simpa using hl,hP⟩
 |k::ks,ts,x6,x7,x8,x9,x10,h0,hl,hP=>by
  rw [List.length_cons] at hl;obtain ⟨ts1,y7,y8,y9,Mn,e1,l1,P1⟩:=wX K ns st lim hm ND hc MG k (h0 k K5) Nl ts 0x1 hP x7 x8 x9 x10;obtain ⟨ts2,z6,z7,z8,z9,z10,e2,l2⟩:=o4 hm ND hc MG Nl ks ts1 (some (.d (.int k))) y7 y8 y9 Mn (fun k' h=>h0 k' (K3 _ h)) 0x1 P1;refine ⟨ts2,z6,z7,z8,z9,z10,?_,l2⟩;rw [List.map_cons];unfold dw;have hs:ar 6 (.int k) (hδ K ns m c st lim ts x6 x7 x8 x9 x10)=some (hδ K ns m c st lim ts (some (.d (.int k))) x7 x8 x9 x10):=rfl;rw [hs,aP,ay,e1,ay,kY];exact e2
end
theorem zh (K:Li) (ns:List Int) (m c st lim:Int) (h0:0<=st) (h1:1<=lim) (h12:lim<=12) (ts:List (Int×Int)) (hP:∀p∈ts,bt m c p=true) (y6 y7 y8 y9 Mn:Option DV) :
  ∃qs:List (Int×Int),(fun δ=>(bx (aR (aw 2 (cm)) (aa (af 5) (aa (e2 a9 (eC (.int 1)) (e2 kl (aR (aw 2 (aG K)) (aa (af 0) (aa (e2 a9 (af 1) (eC (.int 3))) ai))) (af 4))) ai)))) (frz 5 δ)) (hδ K ns m c st lim ts y6 y7 y8 y9 Mn)=rt (.rt (.new (qs.map pr)))/\(qs.length:Int)<=lim/\(∀p∈qs,bt m c p=true)/\(∀p,mR qs p<=2)/\gO qs=true:=by
 have b0:=Int.emod_nonneg (bw ns (st+3)) (show lim≠0 by lia);have b1:=Int.emod_lt_of_pos (bw ns (st+3)) (show 0<lim by lia);obtain ⟨qs,hq,hl⟩:=DD (fun p=>bt m c p=true) ts hP (1+bw ns (st+3) % lim) 0x1 0x1;refine ⟨qs,?_,0x1,hl.2⟩;have hf:frz 5 (hδ K ns m c st lim ts y6 y7 y8 y9 Mn)=[some (.scr K ns),some (.d (.int st)),some (.d (.int m)),some (.d (.int c)),some (.d (.int lim)),some (.d (.list (ts.map pr))),y6,y7,y8,y9,Mn]:=rfl;show bx _ (frz 5 _)=_;rw [hf];refine bD (aV (bQ (x:=.d (.list (ts.map pr))) (y:=.d (.int (1+bw ns (st+3) % lim))) rfl ?_) rfl rfl hq);refine (av (x:=.d (.int 1)) (y:=.d (.int (bw ns (st+3) % lim))) rfl ?_).trans (cZ _ _);exact (av (x:=.d (.int (bw ns (st+3)))) (y:=.d (.int lim)) (xl rfl ((av (x:=.d (.int st)) (y:=.d (.int 3)) rfl rfl).trans (cZ _ _)) 0x1) rfl).trans (fQ 0x1)
theorem vA (K:Li) (ns:List Int) (m c st lim:Int) (h0:0<=st) (h1:1<=lim) (h12:lim<=12) (hm:1<=m) (ND:m<=13) (hc:1<=c) (MG:c<=4) :
  ∃qs:List (Int×Int),dJ K [.scr K ns,.d (.int st),.d (.int m),.d (.int c),.d (.int lim)]=rt (.new (qs.map pr))/\(qs.length:Int)<=lim/\(∀p∈qs,bt m c p=true)/\(∀p,mR qs p<=2)/\gO qs=true:=by
 obtain ⟨ts,y6,y7,y8,y9,Mn,hlp,htl,hP⟩:=o4 K ns st lim hm ND hc MG h0 [0,1,2] [] none none none none none 0x3 0x3 0x4;have s1:aK 5 (cw ai) [some (.scr K ns),some (.d (.int st)),some (.d (.int m)),some (.d (.int c)),some (.d (.int lim)),none,none,none,none,none,none]=rt (.nx (hδ K ns m c st lim [] none none none none none)):=rfl;have s2:cG (rS (aa (eC (.int 3)) ai)) (ar 6) (hB K) (hδ K ns m c st lim [] none none none none none)=rt (.nx (hδ K ns m c st lim ts y6 y7 y8 y9 Mn)):=by
  unfold cG;rw [iQ (j:=3) (bp rfl) 0x3 0x3,ay];exact hlp
 have hlen:aR c6 (aa (af 5) ai) (hδ K ns m c st lim ts y6 y7 y8 y9 Mn)=rt (.d (.int (ts.length:Int))):=(cC (bp (x:=.own (ts.map pr)) rfl)).trans (oM ts);have s3:∃Mr:List (Int×Int),gk (fun δ=>bd (e2 (iG false) (aR c6 (aa (af 5) ai)) (eC (.int 0)) δ) bR) (aK 5 (cw (aa (bj (aa (eC (.int 1)) (aa (eC (.int 0)) ai))) ai))) b9 (hδ K ns m c st lim ts y6 y7 y8 y9 Mn)=rt (.nx (hδ K ns m c st lim Mr y6 y7 y8 y9 Mn))/\(∀p∈Mr,bt m c p=true):=by
  rw [mm (bf ((av (y:=.d (.int 0)) hlen rfl).trans (l5 _ _)))];by_cases h:(((ts.length:Int))==0)=true
  ·rw [if_pos h];exact ⟨[(1,0)],rfl,fun p hp=>by rw [Lm.mp hp]; unfold bt; simp; lia⟩
  ·rw [if_neg h];exact ⟨ts,rfl,hP⟩
 obtain ⟨Mr,s3,N5⟩:=s3;have MJ:e2 kl (aR (aw 2 (aG K)) (aa (af 0) (aa (e2 a9 (af 1) (eC (.int 3))) ai))) (eC (.int 9)) (hδ K ns m c st lim Mr y6 y7 y8 y9 Mn)=rt (.d (.int (bw ns (st+3) % 9))):=
  (av (x:=.d (.int (bw ns (st+3)))) (y:=.d (.int 9)) (xl rfl ((av (x:=.d (.int st)) (y:=.d (.int 3)) rfl rfl).trans (cZ _ _)) 0x1) rfl).trans (fQ 0x3)
 have hif:gk (fun δ=>bd (e2 (iG false) (e2 kl (aR (aw 2 (aG K)) (aa (af 0) (aa (e2 a9 (af 1) (eC (.int 3))) ai))) (eC (.int 9))) (eC (.int 7)) δ) bR) (bx (cw ai)) b9 (hδ K ns m c st lim Mr y6 y7 y8 y9 Mn)=if (bw ns (st+3) % 9==7)=true then bx (cw ai) (hδ K ns m c st lim Mr y6 y7 y8 y9 Mn) else b9 (hδ K ns m c st lim Mr y6 y7 y8 y9 Mn):=
  mm (bf ((av (y:=.d (.int 7)) (fb:=eC (.int 7)) MJ rfl).trans (l5 _ _)))
 obtain ⟨qs,he,hl⟩:=zh K ns m c st lim h0 h1 h12 Mr N5 y6 y7 y8 y9 Mn;unfold dJ eT;have hd:m9 ["script", "start", "most", "colours", "limit", "tiles", "k", "cell", "number", "colour", "size"] [.scr K ns,.d (.int st),.d (.int m),.d (.int c),.d (.int lim)]=[some (.scr K ns),some (.d (.int st)),some (.d (.int m)),some (.d (.int c)),some (.d (.int lim)),none,none,none,none,none,none]:=rfl;rw [hd];have hF:jK K=bE (aK 5 (cw ai)) (bE (cG (rS (aa (eC (.int 3)) ai)) (ar 6) (hB K)) (bE (gk (fun δ=>bd (e2 (iG false) (aR c6 (aa (af 5) ai)) (eC (.int 0)) δ) bR) (aK 5 (cw (aa (bj (aa (eC (.int 1)) (aa (eC (.int 0)) ai))) ai))) b9) (bE (gk (fun δ=>bd (e2 (iG false) (e2 kl (aR (aw 2 (aG K)) (aa (af 0) (aa (e2 a9 (af 1) (eC (.int 3))) ai))) (eC (.int 9))) (eC (.int 7)) δ) bR) (bx (cw ai)) b9) (fun δ=>(bx (aR (aw 2 (cm)) (aa (af 5) (aa (e2 a9 (eC (.int 1)) (e2 kl (aR (aw 2 (aG K)) (aa (af 0) (aa (e2 a9 (af 1) (eC (.int 3))) ai))) (af 4))) ai)))) (frz 5 δ))))):=rfl;rw [hF,cj s1,cj s2,cj s3];by_cases h:(bw ns (st+3) % 9==7)=true
 ·rw [if_pos h] at hif;refine ⟨[],?_,by simp; lia,0x4,fun p=>by show (0:Int)<=2; decide,rfl⟩;rw [qM (hif.trans (bD (x:=.new []) rfl))];rfl
 ·rw [if_neg h] at hif;refine ⟨qs,?_,hl⟩;rw [cj (hif.trans (show b9 _=rt (.nx _) from rfl))];exact (congrArg (fun z=>bd z zp) he).trans rfl
abbrev Tl:=Int×Int
theorem sh (a b:Tl->Int):∀ks:List Tl,(ks.map fun p=>a p+b p).sum=(ks.map a).sum+(ks.map b).sum
 |[]=>rfl
 |k::r=>by simp only [List.map_cons,List.sum_cons]; rw [sh a b r]; lia
theorem qa (a:Tl->Int):∀ks:List Tl,(∀p∈ks,a p=0)->(ks.map a).sum=0
 |[],_=>rfl
 |k::r,h=>by
  simp only [List.map_cons,List.sum_cons];rw [h k K5,qa a r fun p hp=>h p (K3 _ hp)];rfl
theorem ya (f:Tl->Int) (x:Tl):∀ks:List Tl,ks.Nodup->x∈ks->(ks.map fun p=>(if x=p then f p else 0)).sum=f x
 |[],_,h=>nomatch h
 |k::r,hn,h=>by
  have Oa:=List.nodup_cons.mp hn;simp only [List.map_cons,List.sum_cons];by_cases hk:x=k
  ·subst hk;rw [if_pos rfl,qa _ r fun p hp=>if_neg fun (e:x=p)=>Oa.1 (by rw [e]; exact hp)];lia
  ·rw [if_neg hk,ya f x r Oa.2 ((Lj.mp h).resolve_left hk)];lia
theorem Dm (f:Tl->Int) {ks:List Tl} (hn:ks.Nodup):∀L:List Tl,(∀x∈L,x∈ks)->(L.map f).sum=(ks.map fun p=>(L.count p:Int)*f p).sum
 |[],_=>(qa _ ks fun p _=>0x4).symm
 |x::r,h=>by
  have ih:=Dm f hn r fun y hy=>h y (K3 _ hy);have h1:=ya f x ks hn (h x K5);simp only [List.map_cons,List.sum_cons];rw [ih,<-h1,<-sh];congr 1;refine List.map_congr_left fun p _=>?_;rw [List.count_cons];by_cases hx:x=p
  ·subst hx;simp;rw [Int.add_mul];lia
  ·have:(x==p)=false:=by simpa using hx
   rw [if_neg hx,this];simp
noncomputable def aq (hand need:List Tl):List Tl:=need.foldl (fun r t=>r.erase t) hand
theorem iP (p:Tl):∀(need hand:List Tl),(aq hand need).count p=hand.count p-need.count p
 |[],hand=>by unfold aq; simp
 |t::need,hand=>by
  show (aq (hand.erase t) need).count p=_;rw [iP p need,List.count_erase,List.count_cons];by_cases h:t=p
  ·subst h; simp; lia
  ·have:(t==p)=false:=by simpa using h
   rw [this]; simp
theorem cp:∀(need hand:List Tl),(aq hand need).Sublist hand
 |[],hand=>List.Sublist.refl _
 |t::need,hand=>(cp need (hand.erase t)).trans List.erase_sublist
end LW
namespace L3
open PySem PySem.Spec L2
open PyProof.Rows hiding St
noncomputable def xQ:List Int->Int
 |[]=>0
 |[a]=>a
 |a::r=>min a (xQ r)
theorem sd:∀{ns:List Int} {a:Int},a∈ns->xQ ns<=a
 |[b],a,h=>by simp at h; subst h; exact Int.le_refl _
 |b::c::r,a,h=>by
  show min b (xQ (c::r))<=a;rcases Lj.mp h with e|h
  ·subst e; exact Int.min_le_left _ _
  ·exact LG (Int.min_le_right _ _) (sd h)
theorem sj:∀{ns:List Int},ns≠[]->xQ ns∈ns
 |[b],_=>K5
 |b::c::r,_=>by
  show min b (xQ (c::r))∈b::c::r;rcases Int.le_total b (xQ (c::r)) with h|h
  ·rw [Int.min_eq_left h]; exact K5
  ·rw [Int.min_eq_right h]; exact K3 _ (sj 0x4)
theorem Hh {ns:List Int} {M:Int} (h1:M∈ns) (h2:∀a,a∈ns->M<=a):M=xQ ns:=
 Int.le_antisymm (h2 _ (sj (List.ne_nil_of_mem h1))) (sd h1)
noncomputable def ym (xs:List DV):M DV:=match xs with
 |[x]=>bd (op (ma x)) fun ys=>bd (op (nF ys)) fun ns=>if ns.length>0 then rt (.d (.int (xQ ns))) else none
 |_=>none
section
variable {X:Cx} {E:XK}
theorem EJ (hc:X.calm=true):dI X E (.builtin "min") ym:=fun pins s σ O P H₀ H xs vs us r Q I hd hs rx rv e q=>by
 unfold ym at e;split at e
 ·obtain ⟨ys,e1,e2⟩:=bu e;obtain ⟨ns,e3,e4⟩:=bu e2;split at e4
  ·rename_i hpos;cases e4;cases rx with
   |cons r1 rr=>
    cases rr;obtain ⟨a,ws,rfl,ha,l⟩:=r1.list e1;cases rv with
    |cons q1 q2=>
     cases q2;cases q1;have hys:=mP e3;subst hys;obtain ⟨D',ri,pl,hz⟩:=I.list (eN.of ha);obtain ⟨ps,hits,OV⟩:=gj l ri;have ML:=pl.isList;have hl:s.heap.IsList a (intItems ps.toArray):=by
      have:D'.toArray=intItems ps.toArray:=by rw [hits]; simp [intItems]
      rw [<-this]; exact ML
     have hsz:0<ps.toArray.size:=by
      have:ps.length=ns.length:=by rw [<-OV,List.length_map]
      simp; lia
     refine min_intList (I.ok.hd hc) hl hsz fun v h' tk hv hk=>?_;obtain ⟨t,rfl⟩:=intItems_at hv;obtain ⟨h1,h2⟩:=argBest_lt (numAt ps.toArray) (ps.toArray.size-1);have hns':ns=ps.toArray.toList.map (·.1):=by rw [<-OV]
     have hM:numAt ps.toArray (argBest (fun i j=>decide (numAt ps.toArray i<numAt ps.toArray j)) (ps.toArray.size-1))=xQ ns:=by
      refine Hh ?_ fun b hb=>?_
      ·rw [hns',numAt_eq]; exact getD_mem (by rw [List.length_map,Array.length_toList]; lia)
      ·rw [hns'] at hb;obtain ⟨j,hj,rfl⟩:=mem_getD hb;rw [List.length_map,Array.length_toList] at hj;rw [<-numAt_eq]; exact h2 j 0x1
     rw [hM];exact ⟨.int _,H,I.kept (t':=tk) fun b ob eb=>hk b ob eb,⟨_,rfl⟩,q _ H (aE.refl H) (.int _)⟩
  ·cases e4
 ·cases e
end
open Classical in
noncomputable def nc (P:Program) (w:World) (C:Addr) (x:DV):Option (By×(PyData->Option Int)×List PyData):=match x with
 |.fz (.tb P' w' C' l f U)=>if P'=P/\w'=w/\C'=C then some (l,f,U) else none
 |_=>none
@[simp] theorem lQ (P:Program) (w:World) (C:Addr) (l:By) (f:PyData->Option Int) (U:List PyData):nc P w C (.fz (.tb P w C l f U))=some (l,f,U):=if_pos ⟨rfl,rfl,rfl⟩
variable {w:World} {f:PyData->Option Int} {U:List PyData}
theorem iu {P:Program} {C:Addr} {x:DV} {l:By} (h:nc P w C x=some (l,f,U)):x=.fz (.tb P w C l f U):=by
 unfold nc at h;split at h
 ·split at h
  ·rename_i z;obtain ⟨rfl,rfl,rfl⟩:=z;cases h; rfl
  ·cases h
 ·cases h
structure HasM (P:Program) (w:World) (K:Li) (mg:Str->Option Value) (base:Heap) (k:Nat) (C:Addr) (m:Str) (n:Nat) (fm:List DV->M DV):Prop where
 ex:∃fn fd ps,FnOk P w K mg base tK k fn fd ps (DP n fm)/\Meth K C m fn/\f6 K fd ps []
 no:∀v u:V,([("by_least",v),("known",u)]:List (Str×V)).lookup m=none
theorem yj {m:Str} (h1:(m==("by_least" : Str))=false) (h2:(m==("known" : Str))=false) (v u:V):([("by_least",v),("known",u)]:List (Str×V)).lookup m=none:=by
 rw [List.lookup_cons,h1,List.lookup_cons,h2]; rfl
noncomputable def fZ (P:Program) (w:World) (C:Addr) (n:Nat) (fm:List DV->M DV) (fo:DS->M DV) (fr:DS->M (List DV)) (δ:DS):M DV:=bd (fo δ) fun x=>bd (op (nc P w C x)) fun _=>bd (fr δ) fun ys=>aw n fm (x::ys)
section
variable {X:Cx} {E:XK} {o e f:Expr} {es:List Expr} {pos apos G' p1 p2:Pos} {fo fe ff:DS->M DV} {fr:DS->M (List DV)} {C:Addr}
theorem iF {pl:Sem Bool} {k n:Nat} {m:Str} {fm:List DV->M DV} (F:HasM X.prog X.w X.K X.mg X.base k C m n fm) (hr:Room k X.A) (c:Cls X.K C) (ho:PX X E o fo) (ha:t6 X E (e::es) fr)
  (Nl:starEach (e::es) X.env=(false,eval e X.env)::starEach es X.env:=by rfl) (Me:(backTo pos (starEach es X.env)).any (·.1)=false:=by rfl)
  (ht:eval (.Call (.Attribute o m apos) (e::es) [] pos) X.env=(do
   let ov <-eval o X.env
   standAt apos.atName
   let (f,first) <-holding [ov] (getMethod ov m pl)
   callWith pos f first (backTo pos (starEach (e::es) X.env)) (backToKw pos (keywordEach [] X.env))):=by rfl) :
  PX X E (.Call (.Attribute o m apos) (e::es) [] pos) (fZ X.prog X.w C n fm fo fr):=by
 obtain ⟨fn,fd,ps,h1,h2,h3⟩:=F.ex;refine PE.mono (Dq (E:=E0) ho c h2 h1 hr h3 .nil (fun _ _ _ _ _ _ _ h=>h.elim) ha Nl Me ht) fun σ H Q q=>?_;refine kG (g:=fun δ x=>bd (op (nc X.prog X.w C x)) fun _=>bd (fr δ) fun ys=>aw n fm (x::ys)) q fun O P δ x r v H1 rs LK s1 rx e q=>?_;obtain ⟨⟨l,f,U⟩,e0,e⟩:=bu e;have hx:=iu e0;subst hx;obtain ⟨a,dx,rfl,hz,b,m',kvs,hA,Nu⟩:=id rx;refine ⟨a,dx,_,rfl,hA,F.no _ _,?_⟩;rcases ax e with ⟨ys,e1,e2⟩|⟨cx,e1,e2⟩
 ·refine ⟨O,P,δ,.ok ys,LK,e1,fun vs H2 s2 ry=>?_⟩;obtain ⟨zs,h1,h2⟩:=bu e2;split at h2
  ·rename_i hl;cases hf:fm zs with
   |none=>rw [hf] at h2; cases h2
   |some z=>
    rw [hf] at h2;cases z with
    |error c=>cases h2
    |ok x=>
     cases h2;have rall:lu O P H1 H2 (.fz (.tb X.prog X.w C l f U)::ys) (.ref a::vs):=.cons (show xK (P++O) H2 _ _ from xK.kp (.same s2) (show xK (P++O) H1 _ _ from rx)) ry;have rz:=lu.hand LK.dom s2 rall h1;refine ⟨?_,P++O,zs,x,fun a ha=>?_,?_,hf,fun v H' s3 rv=>q v H' (s2.trans s3) (rv.back (s1.trans s2))⟩
     ·rw [List.append_nil];exact (Paired.length rz).symm.trans hl
     ·obtain ⟨o,e'⟩:=LK.dom a ha;exact ⟨o,s2 a o e'⟩
     ·rw [List.append_nil]; exact rz
  ·cases h2
 ·subst e2;exact ⟨O,P,δ,.error cx,LK,e1,q⟩
noncomputable def oU:DV->Option d3
 |.d (.tuple [.int a,.int b])=>some (a,b)
 |_=>none
variable {t:d3}
theorem vo {x:DV} (h:oU x=some t):x=.d (tD t):=by
 unfold oU at h;split at h
 ·cases h; rfl
 ·cases h
noncomputable def c0 (l:By) (t:d3):List (List d3):=((l.find? fun x=>decide (x.1=t)).map (·.2)).getD []
noncomputable def ph:DV->Bool
 |.new []=>true
 |_=>false
noncomputable def E9 (P:Program) (w:World) (C:Addr) (fo fe ff:DS->M DV) (δ:DS):M DV:=bd (fo δ) fun x=>bd (op (nc P w C x)) fun q=>bd (fe δ) fun y=>bd (op (oU y)) fun t=>bd (ff δ) fun z=>if ph z=true then rt (.d (.list ((c0 q.1 t).map wD))) else none
theorem sm {s:d3} (h:tD s=tD t):s=t:=by
 unfold tD at h
 injection h with h
 injection h with h1 h2
 injection h2 with h2 _
 injection h1 with h1
 injection h2 with h2
 exact Prod.ext h1 h2
theorem BW.at {Z:List Addr} {H:Hp} {l:By} {kvs:List (D×V)} (h:BW Z H l kvs) (t:d3):(iC kvs (tD t)=none/\c0 l t=[])\/∃v,iC kvs (tD t)=some v/\Rp Z H (.list ((c0 l t).map wD)) v:=by
 unfold BW at h
 induction h with
 |nil=>exact .inl ⟨rfl,rfl⟩
 |@cons p q ps qs h t' ih=>
  by_cases e:p.1=t
  ·have e':q.1=tD t:=by rw [h.1,e]
   refine .inr ⟨q.2,by simp [iC,List.find?_cons,e'],?_⟩;have:c0 (p::ps) t=p.2:=by simp [c0,List.find?_cons,e]
   rw [this]; exact h.2
  ·have e':¬q.1=tD t:=fun z=>e (sm (h.1.symm.trans z));have a1:iC (q::qs) (tD t)=iC qs (tD t):=by simp [iC,List.find?_cons,e']
   have a2:c0 (p::ps) t=c0 ps t:=by simp [c0,List.find?_cons,e]
   rw [a1,a2]; exact ih
theorem RpT.of {Z:List Addr} {H:Hp} {v:V} (h:Rp Z H (tD t) v):∃b,v=.ref b/\RpT (tv H) (tD t) (.ref b):=by
 unfold tD at h;cases h with
 |@tup a xs vs hz ha l=>
  refine ⟨a,rfl,.tup ha ?_⟩;cases l with
  |cons h1 l=>
   cases l with
   |cons h2 l=>
    cases l;cases h1;cases h2;exact .cons (.int _) (.cons (.int _) .nil)
theorem E5 (hu:X.A.units+20<cLine) (c:Cls X.K C) (hn:d0 X.K C "by_least") (ho:PX X E o fo) (he:PX X E e fe) (hf:PX X E f ff)
  (hb1:attributeBase o "by_least" X.env (eval o X.env)=eval o X.env:=by rfl) (hb2:attributeBase (.Attribute o "by_least" p1) "get" X.env (eval (.Attribute o "by_least" p1) X.env)=eval (.Attribute o "by_least" p1) X.env:=by rfl)
  (few:((backTo G' (starEach [e,f] X.env)).all (fun x=>!x.1)&&(backToKw G' (keywordEach [] X.env)).all (fun x=>x.1.isSome)
   && decide (([e,f]:List Expr).length+([]:List Keyword).length+(if ([]:List Keyword).isEmpty then 0 else 1)<30))=true:=by rfl)
  (line:(apos.endLine==G'.line)=true:=by rfl) (trees:backTo G' (starEach [e,f] X.env)=[(false,eval e X.env),(false,eval f X.env)]:=by rfl) :
  PX X E (.Call (.Attribute (.Attribute o "by_least" p1) "get" apos) [e,f] [] G') (E9 X.prog X.w C fo fe ff):=by
 intro pins s σ H Q I h;refine wpAny_Call_method hb2 few line PySem.F.plainAttrs_dict PySem.F.slot_dict_get PySem.F.type_dict_get (bX (wx ho hb1 pins s σ H (fun v H1=>∃O P δ a dx b m kvs l g U r,RS O P H1 σ δ/\aE H H1/\v=.ref b/\xK (P++O) H1 (.tb X.prog X.w C l g U) (.ref a)/\H1 a=some (.ins C dx [("by_least",.ref b),("known",.ref m)])/\H1 b=some (dO X.prog X.w b kvs)/\BW (P++O) H1 l kvs /\
  (bd (fe δ) fun y=>bd (op (oU y)) fun t=>bd (ff δ) fun z=>if ph z=true then rt (.d (.list ((c0 l t).map wD))) else none)=some r/\Fn E O P H H1 Q r) I ?_) fun u s1 zz=>?_)
 ·refine kG (g:=fun δ x=>bd (op (nc X.prog X.w C x)) fun q=>bd (fe δ) fun y=>bd (op (oU y)) fun t=>bd (ff δ) fun z=>if ph z=true then rt (.d (.list ((c0 q.1 t).map wD))) else none) h fun O P δ x r v H1 rs LK s1 rx e q=>?_;obtain ⟨⟨l,f,U⟩,e0,e9⟩:=bu e;have hx:=iu e0;subst hx;obtain ⟨a,dx,rfl,hz,b,m',kvs,hA,hb,eb,hl,hm,em⟩:=id rx;exact ⟨a,C,dx,_,.ref b,rfl,hA,c,hn,rfl,O,P,δ,a,dx,b,m',kvs,l,f,U,r,LK,s1,rfl,rx,hA,eb,hl,e9,q⟩
 ·obtain ⟨v,H1,I1,rv,O,P,δ,a,dx,b,m,kvs,l,g,U,r,LK,s1',ev,fz,ea,eb,hl,e1,q1⟩:=zz;subst ev;obtain rfl:u=Value.ref b:=rv;have x:=yg I1.hok eb;refine ⟨x.type.1,fun b' z=>?_,?_⟩
  ·cases z; exact x.type.2
  rw [trees];refine Calls.callWith_builtin rfl (Calls.evalArgs_plain (Calls.spliced_cons (bX (he pins s1 σ H1 (fun v H2=>∃t kb r',aE H1 H2/\v=.ref kb/\RpT (tv H2) (tD t) (.ref kb)/\(bd (ff δ) fun z=>if ph z=true then rt (.d (.list ((c0 l t).map wD))) else none)=some r'/\Fn E O P H H2 Q r') I1 ?_)
   fun iv s2 ⟨y,H2,I2,ry,t,kb,r',s2',ey,hT,e2,q2⟩=>Calls.spliced_cons (bX (hf pins s2 σ H2 (fun v H3=>aE H2 H3/\Rp (P++O) H3 (.list []) v/\∀v H4,aE H3 H4->Rp (P++O) H4 (.list ((c0 l t).map wD)) v->Q v H4) I2 ?_) fun fv s3 ⟨z,H3,I3,rz,MC,rn,q3⟩=>Calls.spliced_nil ?_))))
  ·rcases ax e1 with ⟨y,e2,e3⟩|⟨cx,e2,e3⟩
   ·refine ⟨O,P,δ,.ok y,LK,e2,fun v H2 s2 ry=>?_⟩;obtain ⟨t,e4,e5⟩:=bu e3;have hy:=vo e4;subst hy;obtain ⟨kb,rfl,hT⟩:=RpT.of (show Rp (P++O) H2 (tD t) v from ry);exact ⟨t,kb,r,s2,rfl,hT,e5,q1.on s2⟩
   ·subst e3;exact ⟨O,P,δ,.error cx,LK,e2,q1⟩
  ·rcases ax e2 with ⟨z,e3,e4⟩|⟨cx,e3,e4⟩
   ·refine ⟨O,P,δ,.ok z,LK.same s2',e3,fun v H3 s3 rz=>?_⟩;split at e4
    ·rename_i hz;cases e4;have hz':z=.new []:=by
      unfold ph at hz;split at hz
      ·rfl
      ·cases hz
     subst hz';exact ⟨s3,l7 (LK.same s2').dom rz,fun v H4 s4 rv=>q2 v H4 (s3.trans s4) rv⟩
    ·cases e4
   ·subst e4;exact ⟨O,P,δ,.error cx,LK.same s2',e3,q2⟩
  ·cases ey;obtain rfl:iv=Value.ref kb:=ry;have eb3:=MC _ _ (s2' _ _ eb);have x3:=yg I3.hok eb3;refine Hb hu I3 x3 (k:=tD t) rfl (Nat.le_of_lt (by decide:1<6)) (RpT.mono (fun b xs q=>MC _ _ q) hT) rz fun w' s4 I4 rw'=>⟨_,H3,I4,rw',q3 _ H3 (aE.refl H3) ?_⟩;rcases (hl.kp (.same (s2'.trans MC))).at t with ⟨a1,a2⟩|⟨v,a1,a2⟩
   ·rw [a1,a2]; exact rn
   ·rw [a1]; exact a2
end
theorem AJ {prog:Program} {A:Around} {E:Value->Shared->Prop} {s:Shared} {env:Env} {value slice:Expr} {pos:Pos} {Q:Value->Shared->Prop} (hs:jV slice)
  (h:wpAny (model prog w) A (eval value env) (fun o s₁=>wpAny (model prog w) A (eval slice env) (fun i s₂=>s₂.TypeIs o "dict" /\ wpAny (model prog w) A (getItem o i) Q E s₂) E s₁) E s) :
  wpAny (model prog w) A (eval (.Subscript value slice pos) env) Q E s:=by
 refine Subscript_ (wpAny_mono h (fun o s₁ h₁=>wpAny_mono h₁ (fun i s₂ h₂=>?_) fun _ _ x=>x) fun _ _ x=>x);obtain ⟨hT,h₂⟩:=h₂;unfold subscriptTail;refine La ?_;rw [getitemInPython_of_ne hT.not_modules];refine La (wpAny_specialOf hT PySem.F.slot_dict_getitem.lookup ?_);have fin:wpAny (model prog w) A (subscripted slice false o i) (fun r s₃=>wpAny (model prog w) A (letTemporaryGo value o r >>= fun _=>pure r) Q E s₃) E s₂:=by
  rw [hs o i];exact wpAny_operating (wpAny_mono h₂ (fun r s₃ h₃=>La (wpAny_letTemporaryGo (Lb h₃))) fun _ _ x=>x)
 first
  |exact Lb (La fin)
  |exact La (Lb (La fin))
  |exact La fin
structure MS (X:Cx) (i j:Nat) (σ:St) (H:Hp) (m kb:Addr) (k:PyData):Prop where
 self:∃a C dx b,σ[i]?=some (some (.ref a))/\H a=some (.ins C dx [("by_least",.ref b),("known",.ref m)])/\Cls X.K C/\d0 X.K C "known"
 key:σ[j]?=some (some (.ref kb))
 rp:RpT (tv H) k (.ref kb)
 ki:cN k=true
 dp:k.depth<=6
theorem MS.upd {X:Cx} {i j:Nat} {σ:St} {H:Hp} {m kb:Addr} {k:PyData} {φ:(Addr->List V->Prop)->Heap->Prop} {o:HO} (h:MS X i j σ H m kb k) (e:H m=some (.ext φ)):MS X i j σ (upd H m o) m kb k:=by
 obtain ⟨⟨a,C,dx,b,h1,h2,h3,h4⟩,h5,h6,h7,h8⟩:=h;exact ⟨⟨a,C,dx,b,h1,by rw [aD (FJ h2 e (fun z=>nomatch z))]; exact h2,h3,h4⟩,h5,h6.mono (r0 e),h7,h8⟩
variable {i j:Nat} {σ:St} {H:Hp} {m kb:Addr} {k:PyData}
theorem MS.same {X:Cx} {H':Hp} (h:MS X i j σ H m kb k) (s:aE H H'):MS X i j σ H' m kb k:=by
 obtain ⟨⟨a,C,dx,b,h1,h2,h3,h4⟩,h5,h6,h7,h8⟩:=h;exact ⟨⟨a,C,dx,b,h1,s _ _ h2,h3,h4⟩,h5,h6.mono fun _ _ q=>s _ _ q,h7,h8⟩
open Classical in
noncomputable def yb (P:Program) (w:World) (C:Addr) (i j:Nat) (fv:DS->M DV) (δ:DS):M Out:=match δ[i]?,δ[j]? with
 |some (some x),some (some (.d (.tuple ks)))=>bd (op (nc P w C x)) fun q=>bd (op (q.2.1 (.tuple ks))) fun n=>if cN (.tuple ks)=true/\(PyData.tuple ks).depth<=6/\.tuple ks∈q.2.2/\q.2.2.length<=1000000/\fv δ=some (.ok (.d (.int n))) then rt (.rt (.d (.int n))) else none
 |_,_=>none
section
variable {X:Cx} {E:XK} {o ke value:Expr} {i j:Nat} {p1 p2 p3 p4 p5 p6 p7 p8 p9:Pos} {fv:DS->M DV} {C:Addr}
theorem AA (ho:PE X o (gy i)) (hb:attributeBase o "known" X.env (eval o X.env)=eval o X.env):PE X (.Attribute o "known" p1) (fun σ H Q=>MS X i j σ H m kb k/\Q (.ref m) H):=
 PE.mono (wx ho hb) fun σ H Q ⟨h,q⟩=>by
  obtain ⟨a,C,dx,b,h1,h2,h3,h4⟩:=h.self;exact ⟨.ref a,h1,a,C,dx,_,.ref m,rfl,h2,h3,h4,rfl,q⟩
noncomputable def KW (P:Program) (w:World) (f:PyData->Option Int) (U:List PyData) (k:PyData) (m kb:Addr):R2:=fun x y H Q=>x=.ref kb/\y=.ref m/\H m=some (mO P w m f U)/\cN k=true/\k.depth<=6/\RpT (tv H) k (.ref kb)/\Q (.bl true) H/\Q (.bl false) (upd H m (Cn P w m f U k))
theorem Jj (hu:X.A.units+20<cLine):qO X (compareOp .NotIn) (KW X.prog X.w f U k m kb):=by
 intro pins s σ H x y u v Q I rx ry h;obtain ⟨rfl,rfl,h1,h2,h3,h4,h5,h6⟩:=h;obtain rfl:u=Value.ref kb:=rx;obtain rfl:v=Value.ref m:=ry;exact EO hu I h1 h2 h3 h4 (fun s' I'=>⟨.bl true,H,I',rfl,h5⟩) fun s' I'=>⟨.bl false,_,I',rfl,h6⟩
theorem DG {n:Int} {tv':TE} (hu:X.A.units+20<cLine) (ho:PE X o (gy i)) (hk:PE X ke (gy j)) (hv:PE X value tv') (hb:attributeBase o "known" X.env (eval o X.env)=eval o X.env)
  (Np:swapsWith value (some (.Subscript (.Attribute o "known" p2) ke p3)) p4.line X.env=pure false) :
  PS X (.Assign [.Subscript (.Attribute o "known" p2) ke p3] value p4) (fun D σ H=>tv' σ H fun v H1=>v=.int n/\MS X i j σ H1 m kb k/\H1 m=some (mO X.prog X.w m f U)/\f k=some n/\k∈U/\U.length<=1000000/\D.nx σ (upd H1 m (Cn X.prog X.w m f U k))):=by
 intro pins s σ H D I h;refine wpAny_Assign_Subscript (bX (hv pins s σ H _ I h) fun r s1 ⟨v,H1,I1,rv,ev,ms,em,hf,hU,hl,q1⟩=>bX (AA (m:=m) (kb:=kb) (k:=k) (j:=j) ho hb pins s1 σ H1 (fun v H2=>v=.ref m/\H2=H1) I1 ⟨ms,rfl,rfl⟩) fun u s2 ⟨x,H2,I2,rx,ex,eH⟩=>bX (hk pins s2 σ H2 (fun v H3=>v=.ref kb/\H3=H1) I2 ⟨.ref kb,ms.key,rfl,eH⟩) fun iv s3 ⟨y,H3,I3,ry,ey,eH3⟩=>?_) Np;subst ev ex ey eH eH3;obtain rfl:u=Value.ref m:=rx;obtain rfl:iv=Value.ref kb:=ry;exact IT hu I3 em ms.ki ms.dp ms.rp rv hf hU (Nat.lt_of_le_of_lt hl (by rw [sizeLine_eq]; decide)) fun s4 I4=>⟨σ,_,I4,q1⟩
theorem Dg {n:Int} (hu:X.A.units+20<cLine) (ho:PE X o (gy i)) (hk:PE X ke (gy j)) (hb:attributeBase o "known" X.env (eval o X.env)=eval o X.env) (hs:jV ke) :
  PE X (.Subscript (.Attribute o "known" p2) ke p3) (fun σ H Q=>MS X i j σ H m kb k/\H m=some (Cn X.prog X.w m f U k)/\f k=some n/\Q (.int n) (upd H m (mO X.prog X.w m f U))):=by
 intro pins s σ H Q I ⟨ms,em,hf,q⟩;refine AJ hs (bX (AA (m:=m) (kb:=kb) (k:=k) (j:=j) ho hb pins s σ H (fun v H2=>v=.ref m/\H2=H) I ⟨ms,rfl,rfl⟩) fun u s2 ⟨x,H2,I2,rx,ex,eH⟩=>bX (hk pins s2 σ H2 (fun v H3=>v=.ref kb/\H3=H) I2 ⟨.ref kb,ms.key,rfl,eH⟩) fun iv s3 ⟨y,H3,I3,ry,ey,eH3⟩=>?_);subst ex ey eH eH3;obtain rfl:u=Value.ref m:=rx;obtain rfl:iv=Value.ref kb:=ry;obtain ⟨⟨kvs,_,_,x⟩,_⟩:=(show bU X.prog X.w H3 s3.heap m (.ext _) from I3.hok m _ em);refine ⟨x.type.1,Jl hu I3 em ms.ki ms.dp ms.rp fun i' t s' hi I'=>?_⟩;rw [hf] at hi;cases hi;exact ⟨.int n,_,I',⟨t,rfl⟩,q⟩
theorem HG {Z:List Addr}:∀{d:PyData} {v:V},cN d=true->Rp Z H d v->RpT (tv H) d v:=by
 intro d v h r;refine Rp.rec (motive_1:=fun d v _=>cN d=true->RpT (tv H) d v) (motive_2:=fun ds vs _=>fq ds=true->RpTL (tv H) ds vs) ?_ ?_ ?_ ?_ ?_ ?_ ?_ ?_ r h
 ·intro h; simp [cN] at h
 ·intro _ h; simp [cN] at h
 ·intro i _; exact .int i
 ·intro _ _ h; simp [cN] at h
 ·intro a xs vs hz ha l ih h;exact .tup ha (ih (by unfold cN at h; exact h))
 ·intro _ _ _ _ _ _ _ h; simp [cN] at h
 ·intro _; exact .nil
 ·intro d v ds vs r l ih1 ih2 h;unfold fq at h;rw [Bool.and_eq_true] at h;exact .cons (ih1 h.1) (ih2 h.2)
theorem EB {o1 o2 o3 k1 k2 k3:Expr} (hu:X.A.units+20<cLine) (c:Cls X.K C) (hn:d0 X.K C "known") (ho1:PE X o1 (gy i)) (ho2:PE X o2 (gy i)) (ho3:PE X o3 (gy i)) (Ow:PE X k1 (gy j)) (Nn:PE X k2 (gy j)) (hk3:PE X k3 (gy j)) (hv:PX X E value fv) (hs:jV k3)
  (hb1:attributeBase o1 "known" X.env (eval o1 X.env)=eval o1 X.env:=by rfl) (hb2:attributeBase o2 "known" X.env (eval o2 X.env)=eval o2 X.env:=by rfl) (hb3:attributeBase o3 "known" X.env (eval o3 X.env)=eval o3 X.env:=by rfl) (hm:behindInMarks .NotIn (.Attribute o1 "known" p1)=false:=by first|exact wF _|rfl)
  (Np:swapsWith value (some (.Subscript (.Attribute o2 "known" p2) k2 p3)) p4.line X.env=pure false:=by rfl) :
  yy X E [.If (.Compare k1 [.NotIn] [.Attribute o1 "known" p1] p5) [.Assign [.Subscript (.Attribute o2 "known" p2) k2 p3] value p4] [] p6,.Return (some (.Subscript (.Attribute o3 "known" p7) k3 p8)) p9] (yb X.prog X.w C i j fv):=by
 intro pins s σ H D I h;obtain ⟨O,P,δ,r,rs,e,q⟩:=h;unfold yb at e;split at e
 ·rename_i x ks ex ek;obtain ⟨⟨l,f,U⟩,e0,e1⟩:=bu e;have hx:=iu e0;subst hx;obtain ⟨n,e2,e3⟩:=bu e1;split at e3
  ·rename_i hc;obtain ⟨c1,c2,c3,c4,c5⟩:=hc;cases e3;obtain ⟨v,ev,_,a,dx,rfl,hz,b,m,kvs,hA,My,eb,hl,ND,em⟩:=rs.at' i _ ex;obtain ⟨kv,ekv,_,rk⟩:=rs.at' j _ ek;have rT:=HG c1 (show Rp (P++O) H (.tuple ks) kv from rk);obtain ⟨kb,rfl⟩:∃kb,kv=.ref kb:=by
    cases rT with
    |tup h l=>exact ⟨_,rfl⟩
   have ms:MS X i j σ H m kb (.tuple ks):=⟨⟨a,C,dx,b,ev,hA,c,hn⟩,ekv,rT,c1,c2⟩;have back:∀H2,H2 m=some (mO X.prog X.w m f U)->upd (upd H2 m (Cn X.prog X.w m f U (.tuple ks))) m (mO X.prog X.w m f U)=H2:=fun H2 e=>by
    rw [DJ];funext z;unfold upd;split
    ·rename_i hz; rw [hz,e]
    ·rfl
   have fin:∀H2,aE H H2->H2 m=some (mO X.prog X.w m f U)->Ir (fun σ H Q=>MS X i j σ H m kb (.tuple ks)/\H m=some (Cn X.prog X.w m f U (.tuple ks))/\f (.tuple ks)=some n/\Q (.int n) (upd H m (mO X.prog X.w m f U))) D σ (upd H2 m (Cn X.prog X.w m f U (.tuple ks))):=fun H2 s2 e=>by
    refine ⟨(ms.same s2).upd e,aM,e2,?_⟩;rw [back H2 e];exact q (.int n) H H2 P .refl s2 rs.dom rs.apart (.int n)
   refine fP (yB (Di (Jj (f:=f) (U:=U) (k:=.tuple ks) (m:=m) (kb:=kb) hu) Ow (AA (m:=m) (kb:=kb) (k:=.tuple ks) (j:=j) ho1 hb1) hm) (fE (DG (f:=f) (U:=U) (n:=n) (k:=.tuple ks) (m:=m) (kb:=kb) hu ho2 Nn hv hb2 Np)) ou) (fE (vM (Dg (f:=f) (U:=U) (n:=n) (k:=.tuple ks) (m:=m) (kb:=kb) hu ho3 hk3 hb3 hs))) pins s σ H D I ?_;refine ⟨.ref kb,ekv,ms,rfl,rfl,em,c1,c2,rT,⟨true,rfl,wG ?_⟩,⟨false,rfl,vL ?_⟩⟩
   ·refine ⟨O,P,δ,_,rs,c5,fun v H1 s1 rv=>?_⟩;have rv':Rp (P++O) H1 (.int n) v:=rv;cases rv';exact ⟨rfl,ms.same s1,s1 _ _ em,e2,c3,c4,fin H1 s1 (s1 _ _ em)⟩
   ·exact fin H (aE.refl H) em
  ·cases e3
 ·cases e
end
noncomputable def i9 (l:By) (t:d3):Bool:=l.any fun x=>decide (x.1=t)
noncomputable def fj (l:By) (t:d3) (w:List d3):By:=if i9 l t=true then l.map fun x=>if x.1=t then (x.1,x.2++[w]) else x else l++[(t,[w])]
def BP (O P:List Addr) (H:Hp) (p:d3×List (List d3)) (q:D×V):Prop:=q.1=tD p.1/\∃a vs,q.2=.ref a/\a∈P/\H a=some (.lst vs)/\RpL (P++O) H (p.2.map wD) vs
structure BI (Pr:Program) (w:World) (O P:List Addr) (H:Hp) (b:Addr) (l:By) (kvs:List (D×V)):Prop where
 mem:b∈P
 at':H b=some (dO Pr w b kvs)
 pr:Paired (BP O P H) l kvs
 nd:(kvs.map (·.2)).Nodup
 nk:(l.map (·.1)).Nodup
theorem RS.moved {O P P':List Addr} {H':Hp} {δ:DS} (r:RS O P H σ δ) (hd:∀(i:Nat) (x:DV),δ[i]?=some (some x)->∃d,x=.d d) (k:Kp P H P' H') (dom:∀a,a∈P'->∃o,H' a=some o) (ap:∀a,a∈P'->a∉O):RS O P' H' σ δ:=by
 refine ⟨r.len,fun a ha=>?_,ap,fun i x e=>?_,fun i j x y v w a e1 e2 e3 e4 o1 o2=>?_⟩
 ·rcases Lk.mp ha with h|h
  ·exact dom a h
  ·obtain ⟨o,e⟩:=r.dom a (K7 _ h);exact ⟨o,k.keep a o (fun z=>r.apart a z h) e⟩
 ·obtain ⟨d,rfl⟩:=hd i x e;obtain ⟨v,e1,e2,e3⟩:=r.at' i _ e;exact ⟨v,e1,e2,Rp.kp k.app (show Rp (P++O) H d v from e3)⟩
 ·obtain ⟨d,rfl⟩:=hd i x e1;exact o1.elim
theorem Paired.idx {α β γ:Type} {F:α->β->Prop} {G:γ->β->Prop} {f:α->γ}:∀{l:List α} {m:List β},Paired F l m->(∀(i:Nat) x y,l[i]?=some x->m[i]?=some y->F x y->G (f x) y)->Paired G (l.map f) m
 |_,_,.nil,_=>.nil
 |_,_,.cons h t,k=>.cons (k 0 _ _ rfl rfl h) (Paired.idx t fun i x y e1 e2 r=>k (i+1) x y (by simpa using e1) (by simpa using e2) r)
theorem Paired.get {α β:Type} {F:α->β->Prop}:∀{l:List α} {m:List β},Paired F l m->∀{i:Nat} {y:β},m[i]?=some y->∃x,l[i]?=some x/\F x y
 |_,_,.nil,_,_,h=>by simp at h
 |_,_,.cons h t,0,_,e=>by simp at e; subst e; exact ⟨_,rfl,h⟩
 |_,_,.cons h t,i+1,_,e=>by
  obtain ⟨x,e1,e2⟩:=Paired.get t (i:=i) (by simpa using e);exact ⟨x,by simpa using e1,e2⟩
theorem rh {α β:Type} {f:α->β} {l:List α} (h:(l.map f).Nodup) {x y:α} (e1:l[i]?=some x) (e2:l[j]?=some y) (e:f x=f y):i=j:=by
 have a:(l.map f)[i]?=some (f x):=by rw [List.getElem?_map,e1]; rfl
 have c:(l.map f)[j]?=some (f y):=by rw [List.getElem?_map,e2]; rfl
 exact (List.getElem?_inj (Lp.mp a).1 h).mp (a.trans (by rw [e]; exact c.symm))
section
variable {Pr:Program} {w:World} {O P:List Addr} {H:Hp} {b a:Addr} {l:By} {kvs:List (D×V)} {t:d3} {ws:List d3} {u v:V}
theorem BI.has (h:BI Pr w O P H b l kvs) (t:d3):(iC kvs (tD t)).isSome=i9 l t:=by
 have hp:=h.pr;clear h
 induction hp with
 |nil=>rfl
 |@cons p q ps qs h r ih=>
  by_cases e:p.1=t
  ·have e':q.1=tD t:=by rw [h.1,e]
   simp [iC,i9,List.find?_cons,e,e']
  ·have e':¬q.1=tD t:=fun z=>e (sm (h.1.symm.trans z));have a1:iC (q::qs) (tD t)=iC qs (tD t):=by simp [iC,List.find?_cons,e']
   have a2:i9 (p::ps) t=i9 ps t:=by simp [i9,e]
   rw [a1,a2]; exact ih
theorem BI.look (h:BI Pr w O P H b l kvs) (hv:iC kvs (tD t)=some v):∃c vs ts,v=.ref c/\H c=some (.lst vs)/\c∈P/\(t,ts)∈l/\vs.length=ts.length:=by
 obtain ⟨i0,e0⟩:=List.mem_iff_getElem?.mp (oq hv);obtain ⟨⟨t',ts⟩,el,eq,c,vs,ec,hc,ha,hl⟩:=Paired.get h.pr e0;have et:t=t':=sm eq;subst et;exact ⟨c,vs,ts,ec,ha,hc,List.mem_of_getElem? el,by rw [<-hl.length]; simp⟩
theorem BI.old (h:BI Pr w O P H b l kvs) (hv:iC kvs (tD t)=some v) (ru:Rp (P++O) H (wD ws) u) :
  ∃c vs,v=.ref c/\H c=some (.lst vs)/\(∃ts,(t,ts)∈l/\vs.length=ts.length)/\Kp P H P (upd H c (.lst (vs++[u])))/\BI Pr w O P (upd H c (.lst (vs++[u]))) b (fj l t ws) kvs:=by
 obtain ⟨i0,e0⟩:=List.mem_iff_getElem?.mp (oq hv);obtain ⟨⟨t',ts⟩,el,eq,c,vs,ec,hc,ha,hl⟩:=Paired.get h.pr e0;have et:t=t':=sm eq;subst et;have hbc:b≠c:=fun z=>by have:=h.at'; rw [z,ha] at this; cases this
 have k:Kp P H P (upd H c (.lst (vs++[u]))):=⟨fun d o hd q=>by rw [aD (show d≠c from fun z=>hd (by rw [z]; exact hc))]; exact q,fun d hd=>.inl hd⟩;refine ⟨c,vs,ec,ha,⟨ts,List.mem_of_getElem? el,by rw [<-hl.length]; simp⟩,k,h.mem,by rw [aD hbc]; exact h.at',?_,h.nd,?_⟩
 ·unfold fj;rw [if_pos (by rw [<-h.has,hv]; rfl)];refine Paired.idx h.pr fun i x y e1 e2 ⟨h1,a,us,h2,h3,h4,h5⟩=>?_;by_cases e:x.1=t
  ·have hi:i=i0:=rh h.nk e1 el e;subst hi;rw [el] at e1;cases e1;rw [e0] at e2;cases e2;rw [if_pos rfl];refine ⟨rfl,c,vs++[u],ec,hc,aM,?_⟩;rw [List.map_append];exact (hl.kp k.app).append (.cons (ru.kp k.app) .nil)
  ·rw [if_neg e];have hac:a≠c:=fun z=>by
    have hi:i=i0:=rh h.nd e2 e0 (by rw [h2,z]; exact ec.symm);subst hi;rw [el] at e1;cases e1;exact e rfl
   exact ⟨h1,a,us,h2,h3,by rw [aD hac]; exact h4,h5.kp k.app⟩
 ·have:(fj l t ws).map (·.1)=l.map (·.1):=by
   unfold fj;rw [if_pos (by rw [<-h.has,hv]; rfl),List.map_map];refine List.map_congr_left fun x _=>?_;show (if x.1=t then (x.1,x.2++[ws]) else x).1=x.1;split <;> rfl
  rw [this]; exact h.nk
theorem BI.ins (h:BI Pr w O P H b l kvs) (hv:iC kvs (tD t)=none) (ha:H a=none) (dom:∀c,c∈P->∃o,H c=some o) :
  Kp P H (a::P) (upd (upd H a (.lst [])) b (dO Pr w b (kvs++[(tD t,.ref a)])))/\BI Pr w O (a::P) (upd (upd H a (.lst [])) b (dO Pr w b (kvs++[(tD t,.ref a)]))) b (l++[(t,[])]) (kvs++[(tD t,.ref a)]):=by
 have Nt:a≠b:=fun z=>by obtain ⟨o,e⟩:=dom b h.mem; rw [<-z,ha] at e; cases e
 have kk:∀d o,d≠b->H d=some o->upd (upd H a (.lst [])) b (dO Pr w b (kvs++[(tD t,.ref a)])) d=some o:=fun d o hd e=>by
  have hda:d≠a:=fun z=>by rw [z,ha] at e; cases e
  rw [aD hd,aD hda]; exact e
 have k:Kp P H (a::P) (upd (upd H a (.lst [])) b (dO Pr w b (kvs++[(tD t,.ref a)]))):=⟨fun d o hd q=>kk d o (fun z=>hd (by rw [z]; exact h.mem)) q,fun d hd=>by
  rcases Lj.mp hd with z|z
  ·exact .inr (z▸ha)
  ·exact .inl z⟩
 refine ⟨k,K3 _ h.mem,aM,?_,?_,?_⟩
 ·refine Paired.snoc (Paired.mapP h.pr fun x y ⟨h1,c,us,h2,h3,h4,h5⟩=>⟨h1,c,us,h2,K3 _ h3,kk c _ (fun z=>by have:=h.at'; rw [<-z,h4] at this; cases this) h4,h5.kp k.app⟩) ?_;exact ⟨rfl,a,[],rfl,K5,by rw [aD Nt,aM],.nil⟩
 ·rw [List.map_append,List.nodup_append];refine ⟨h.nd,0x4,fun x hx y hy=>?_⟩;simp only [List.map_cons,List.map_nil,List.mem_singleton] at hy;subst hy;obtain ⟨q,hq,rfl⟩:=Ll.mp hx;obtain ⟨i,ei⟩:=List.mem_iff_getElem?.mp hq;obtain ⟨p,_,_,c,us,e1,hc,h4,_⟩:=Paired.get h.pr ei;intro z;rw [e1] at z;cases z;rw [ha] at h4; cases h4
 ·rw [List.map_append,List.nodup_append];refine ⟨h.nk,0x4,fun x hx y hy=>?_⟩;simp only [List.map_cons,List.map_nil,List.mem_singleton] at hy;obtain ⟨p,hp,rfl⟩:=Ll.mp hx;intro z;rw [hy] at z;have:i9 l t=true:=List.any_eq_true.mpr ⟨p,hp,by simpa using z⟩;rw [<-h.has,hv] at this;cases this
theorem yT (h:i9 l t=false):fj (l++[(t,[])]) t ws=fj l t ws:=by
 unfold fj;have h1:i9 (l++[(t,[])]) t=true:=by unfold i9; rw [List.any_append]; simp
 rw [if_pos h1,h,List.map_append];have h2:(l.map fun x=>if x.1=t then (x.1,x.2++[ws]) else x)=l:=by
  have:∀x∈l,(if x.1=t then (x.1,x.2++[ws]) else x)=x:=fun x hx=>by
   rw [if_neg];intro z;have:i9 l t=true:=List.any_eq_true.mpr ⟨x,hx,by simpa using z⟩;rw [h] at this; cases this
  exact (List.map_congr_left this).trans (List.map_id' l)
 rw [h2];simp
theorem BI.same {H':Hp} (h:BI Pr w O P H b l kvs) (s:aE H H'):BI Pr w O P H' b l kvs:=
 ⟨h.mem,s _ _ h.at',Paired.mapP h.pr fun x y ⟨h1,c,us,h2,h3,h4,h5⟩=>⟨h1,c,us,h2,h3,s _ _ h4,h5.kp (.same s)⟩,h.nd,h.nk⟩
theorem BI.told {H0:Hp} (h:BI Pr w O P H b l kvs) (ap:∀a,a∈P->a∉O):RE O [] H0 H (.fz (.dl Pr w l)) (.ref b):=by
 refine ⟨b,b,rfl,ap b h.mem,kvs,h.at',Paired.mapP h.pr fun x y ⟨h1,c,us,h2,h3,h4,h5⟩=>⟨h1,?_⟩⟩;rw [h2];exact .lst (ap c h3) h4 (h5.kp (.sub fun d hd=>K7 _ hd))
end
section
variable {X:Cx} {E:XK} {o e f ep:Expr} {apos G' a1 a2 c1 c2 pos q:Pos} {td ty tx:TE} {fp:DS->M DV}
def Ko (P:Program) (w:World) (td ty tx:TE):TE:=fun σ H Q=>td σ H fun x H1=>∃b kvs0,x=.ref b/\H1 b=some (dO P w b kvs0)/\ty σ H1 fun y H2=>tx σ H2 fun z H3=>∃kvs k kb,H3 b=some (dO P w b kvs)/\y=.ref kb/\cN k=true/\k.depth<=6/\RpT (tv H3) k (.ref kb)/\kvs.length<sizeLine /\
 (∀v,iC kvs k=some v->Q v H3)/\(iC kvs k=none->Q z (upd H3 b (dO P w b (kvs++[(k,z)]))))
theorem IZ (hu:X.A.units+20<cLine) (ho:PE X o td) (he:PE X e ty) (hf:PE X f tx)
  (base:attributeBase o "setdefault" X.env (eval o X.env)=eval o X.env:=by rfl)
  (few:((backTo G' (starEach [e,f] X.env)).all (fun x=>!x.1)&&(backToKw G' (keywordEach [] X.env)).all (fun x=>x.1.isSome)
   && decide (([e,f]:List Expr).length+([]:List Keyword).length+(if ([]:List Keyword).isEmpty then 0 else 1)<30))=true:=by rfl)
  (line:(apos.endLine==G'.line)=true:=by rfl) (trees:backTo G' (starEach [e,f] X.env)=[(false,eval e X.env),(false,eval f X.env)]:=by rfl) :
  PE X (.Call (.Attribute o "setdefault" apos) [e,f] [] G') (Ko X.prog X.w td ty tx):=by
 intro pins s σ H Q I h;refine wpAny_Call_method base few line PySem.F.plainAttrs_dict PySem.F.slot_dict_setdefault PySem.F.type_dict_setdefault (bX (ho pins s σ H _ I h) fun u s1 zz=>?_);obtain ⟨x,H1,I1,rx,b,kvs0,ex,eb,q1⟩:=zz;subst ex;obtain rfl:u=Value.ref b:=rx;have x0:=yg I1.hok eb;refine ⟨x0.type.1,fun b' z=>?_,?_⟩
 ·cases z; exact x0.type.2
 rw [trees];refine Calls.callWith_builtin rfl (Calls.evalArgs_plain (Calls.spliced_cons (bX (he pins s1 σ H1 _ I1 q1) fun iv s2 ⟨y,H2,I2,ry,q2⟩=>
  Calls.spliced_cons (bX (hf pins s2 σ H2 _ I2 q2) fun fv s3 ⟨z,H3,I3,rz,kvs,k,kb,e3,ey,k1,k2,k3,hl,q3,q4⟩=>Calls.spliced_nil ?_))))
 subst ey;obtain rfl:iv=Value.ref kb:=ry;exact tQ hu I3 e3 k1 k2 k3 rz hl (fun v w' s4 ev I4 rv=>⟨v,H3,I4,rv,q3 v ev⟩) fun ev s4 I4=>⟨z,_,I4,rz,q4 ev⟩
def F6 (P:Program) (w:World) (i j:Nat) (fp:DS->M DV):TS:=fun D σ H=>∃O P' δ b t ws l kvs,RS O P' H σ δ/\(∀(i:Nat) (x:DV),δ[i]?=some (some x)->∃d,x=.d d)/\σ[i]?=some (some (.ref b))/\δ[j]?=some (some (.d (tD t)))/\fp δ=some (.ok (.d (wD ws)))/\BI P w O P' H b l kvs/\kvs.length<1000000/\(∀p∈l,p.2.length<1000000) /\
 ∀P2 H2 Nh,Kp P' H P2 H2->RS O P2 H2 σ δ->BI P w O P2 H2 b (fj l t ws) Nh->D.nx σ H2
theorem G9 (h1:PE X (.Call (.Attribute (.Call (.Attribute o "setdefault" a1) [e,.List [] q] [] c1) "append" a2) [ep] [] c2) (Kq X.K "list" xJ (Ko X.prog X.w (gy i) (gy j) (IU HN)) (Fg (tE E fp) HN)))
  (hs:swapsWith (.Call (.Attribute (.Call (.Attribute o "setdefault" a1) [e,.List [] q] [] c1) "append" a2) [ep] [] c2) none pos.line X.env=pure false:=by rfl) :
  PS X (.Expr (.Call (.Attribute (.Call (.Attribute o "setdefault" a1) [e,.List [] q] [] c1) "append" a2) [ep] [] c2) pos) (F6 X.prog X.w i j fp):=PS.mono (kd h1 hs) fun D σ H h=>by
 obtain ⟨O,P,δ,b,t,ws,l,kvs,rs,hd,eb,et,ef,bi,hl1,hl2,nx⟩:=h;obtain ⟨tv',etv,_,rt'⟩:=rs.at' j _ et;obtain ⟨kb,rfl,hT⟩:=RpT.of (show Rp (P++O) H (tD t) tv' from rt');have N9:∀c,c∈P->∃o,H c=some o:=fun c hc=>rs.dom c (K8 _ hc);have sl:∀n,n<1000000->n<sizeLine:=fun n h=>Lx h (by rw [sizeLine_eq]; decide);refine ⟨.ref b,eb,b,kvs,rfl,bi.at',.ref kb,etv,Lv _,fun a ha=>⟨kvs,tD t,kb,bb ha _ _ bi.at',rfl,rfl,Nat.le_of_lt (by decide:1<6),hT.mono (fun c xs q=>bb ha _ _ q),sl _ hl1,fun v ev=>?_,fun ev=>?_⟩⟩
 ·have s0:aE H (upd H a (.lst [])):=bb ha;obtain ⟨c,vs,ts,rfl,hc,cP,hm,hlen⟩:=(bi.same s0).look ev;refine ⟨.inl ⟨rfl,_,eN.of hc⟩,O,P,δ,_,rs.same s0,ef,fun u H2 s2 ru=>?_⟩;have sH:=s0.trans s2;obtain ⟨c',OF,e1,MG,_,k,bi2⟩:=(bi.same sH).old (ws:=ws) (u:=u) ev ru;cases e1;have e2:=s2 _ _ hc;rw [MG] at e2;cases e2;refine ⟨c,vs,u,rfl,rfl,MG,sl _ (by rw [hlen]; exact hl2 _ hm),nx P _ kvs ((Kp.same sH).trans k) ?_ bi2⟩;refine (rs.same sH).moved hd k (fun d Nf=>?_) rs.apart;by_cases z:d=c
  ·exact ⟨_,by rw [z]; exact aM⟩
  ·obtain ⟨ob,q⟩:=N9 d Nf;exact ⟨ob,by rw [aD z]; exact sH _ _ q⟩
 ·obtain ⟨k1,bi1⟩:=bi.ins (t:=t) ev ha N9;have eh:upd (upd H a (.lst [])) b (dO X.prog X.w b (kvs++[(tD t,.ref a)])) a=some (.lst []):=by
   have Nt:a≠b:=fun z=>by obtain ⟨o,e⟩:=N9 b bi.mem; rw [<-z,ha] at e; cases e
   rw [aD Nt,aM]
  have aO:a∉O:=fun z=>by obtain ⟨ob,q⟩:=rs.dom a (K7 _ z); rw [ha] at q; cases q
  have dom1:∀d,d∈a::P->∃o,upd (upd H a (.lst [])) b (dO X.prog X.w b (kvs++[(tD t,.ref a)])) d=some o:=fun d Nf=>by
   by_cases zb:d=b
   ·exact ⟨_,by rw [zb]; exact aM⟩
   ·rcases Lj.mp Nf with z|z
    ·exact ⟨_,by rw [z]; exact eh⟩
    ·obtain ⟨ob,q⟩:=N9 d z;have hda:d≠a:=fun z=>by rw [z,ha] at q; cases q
     exact ⟨ob,by rw [aD zb,aD hda]; exact q⟩
  have ap1:∀d,d∈a::P->d∉O:=fun d Nf=>by
   rcases Lj.mp Nf with z|z
   ·rw [z]; exact aO
   ·exact rs.apart d z
  have LK:=rs.moved hd k1 dom1 ap1;have ev1:iC (kvs++[(tD t,V.ref a)]) (tD t)=some (.ref a):=by
   unfold iC at ev ⊢;rw [List.find?_append];cases e2:kvs.find? fun x=>decide (x.1=tD t) with
   |none=>simp
   |some p=>rw [e2] at ev; cases ev
  refine ⟨.inl ⟨rfl,_,eN.of eh⟩,O,a::P,δ,_,LK,ef,fun u H2 s2 ru=>?_⟩;obtain ⟨c',OF,e1,MG,_,k,bi2⟩:=(bi1.same s2).old (ws:=ws) (u:=u) ev1 ru;cases e1;have e2:=s2 _ _ eh;rw [MG] at e2;cases e2;rw [yT (by rw [<-bi.has,ev]; rfl)] at bi2;refine ⟨a,[],u,rfl,rfl,MG,sl 0 0x3,nx (a::P) _ _ ((k1.trans (Kp.same s2)).trans k) ?_ bi2⟩;refine (LK.same s2).moved hd k (fun d Nf=>?_) ap1;by_cases z:d=a
  ·exact ⟨_,by rw [z]; exact aM⟩
  ·obtain ⟨ob,q⟩:=dom1 d Nf;exact ⟨ob,by rw [aD z]; exact s2 _ _ q⟩
end
section
variable {X:Cx} {E:XK} {pos:Pos}
theorem yD {pins:List (Addr×Obj)} {s:Shared} (I:Inv X pins σ H s):(s.heap.objs.size==sysModules)=false:=
 beq_eq_false_iff_ne.mpr (Ne.symm (LA (Nat.lt_trans 0x3 (I.mod.glob.keeps I.bk).lt)))
theorem BE {P:Program} {T:Addr->List V->Prop} {h:Heap} (hb:(h.objs.size==sysModules)=false):DX P w h.objs.size [] T (h.push { cls:=.type "dict",data:=.dict #[] }):=
 ⟨hb,Lv _,[],.nil,_,#[],0,LC _ rfl,⟨rfl,rfl,rfl⟩,rfl,rfl,List.nodup_nil⟩
theorem EM:PE X (.Dict [] [] pos) (fun σ H Q=>∀p,H p=none->Q (.ref p) (upd H p (dO X.prog X.w p []))):=fun pins s σ H Q I h=>
 wpAny_Dict_empty ⟨.ref s.heap.objs.size,_,I.laid (a:=s.heap.objs.size) (t':=s.toks) (fun _ _ q=>K6 _ q) (K9 _) (Fm (BE (yD I))),rfl,h _ (I.hok.fresh (K9 _))⟩
theorem EK:PE X (.Dict [] [] pos) (fun σ H Q=>∀p,H p=none->Q (.ref p) (upd H p (mO X.prog X.w p f U))):=fun pins s σ H Q I h=>
 wpAny_Dict_empty ⟨.ref s.heap.objs.size,_,I.laid (a:=s.heap.objs.size) (t':=s.toks) (fun _ _ q=>K6 _ q) (K9 _) (FA (kvs:=[]) (fun _ h=>nomatch h) (BE (yD I))),rfl,h _ (I.hok.fresh (K9 _))⟩
end
noncomputable def il (l:By) (ws:List d3):By:=(ws.take 3).foldl (fun l t=>fj l t ws) l
noncomputable def kL (LN:List (List d3)):By:=LN.foldl il []
noncomputable def Fq:D->Option d3
 |.tuple [.int a,.int b]=>some (a,b)
 |_=>none
noncomputable def cq:List D->Option (List d3)
 |[]=>some []
 |x::r=>match Fq x,cq r with
  |some t,some ts=>some (t::ts)
  |_,_=>none
noncomputable def Cd:D->Option (List d3)
 |.tuple [_,.list ts]=>cq ts
 |_=>none
noncomputable def fX:List D->Option (List (List d3))
 |[]=>some []
 |x::r=>match Cd x,fX r with
  |some t,some ts=>some (t::ts)
  |_,_=>none
theorem dF (ts:List d3):cq (ts.map tD)=some ts:=by
 induction ts with
 |nil=>rfl
 |cons t r ih=>rw [List.map_cons,cq,ih]; rfl
theorem jZ:∀{xs:List D} {ts:List d3},cq xs=some ts->xs=ts.map tD
 |[],ts,h=>by cases h; rfl
 |x::r,ts,h=>by
  unfold cq at h;split at h
  ·rename_i t us h1 h2;cases h;rw [jZ h2,List.map_cons];congr 1;unfold Fq at h1;split at h1
   ·cases h1; rfl
   ·cases h1
  ·cases h
theorem oN:∀{xs:List D} {LN:List (List d3)},fX xs=some LN->LN.length=xs.length/\∀(i:Nat) (d:D),xs[i]?=some d->∃m ws,d=.tuple [m,wD ws]/\LN[i]?=some ws
 |[],LN,h=>by cases h; exact ⟨rfl,fun i d h=>by simp at h⟩
 |x::r,LN,h=>by
  unfold fX at h;split at h
  ·rename_i t us h1 h2;cases h;obtain ⟨hl,hg⟩:=oN h2;refine ⟨by simp [hl],fun i d hd=>?_⟩;cases i with
   |zero=>
    simp at hd;subst hd;unfold Cd at h1;split at h1
    ·rename_i m ts;exact ⟨m,t,by rw [jZ h1]; rfl,rfl⟩
    ·cases h1
   |succ i=>simpa using hg i d (by simpa using hd)
  ·cases h
theorem Jp (ts:List D):qr ts none (some 3)=ts.take 3:=by
 unfold qr HT.sIx;simp
 try lia
def t8 (l:By) (n:Nat):Prop:=l.length<=n/\∀p∈l,p.2.length<=n
theorem t8.add {l:By} {n:Nat} (h:t8 l n) (t:d3) (ws:List d3):t8 (fj l t ws) (n+1):=by
 unfold fj;split
 ·refine ⟨by rw [List.length_map]; exact Nat.le_succ_of_le h.1,fun p hp=>?_⟩;obtain ⟨q,hq,rfl⟩:=Ll.mp hp;have:=h.2 q hq;split
  ·simp; lia
  ·lia
 ·refine ⟨by have:=h.1; simp; lia,fun p hp=>?_⟩;rcases Lk.mp hp with hp|hp
  ·exact Nat.le_succ_of_le (h.2 p hp)
  ·simp at hp; subst hp; simp
theorem RS.free {O P:List Addr} {δ:DS} {v:Option V} (r:RS O P H σ δ) (h:δ[i]?=some none):RS O P H (σ.set i v) δ:=by
 have ne:∀(j:Nat) (x:DV),δ[j]?=some (some x)->i≠j:=fun j x e z=>by rw [z,e] at h; cases h
 refine ⟨by rw [List.length_set]; exact r.len,r.dom,r.apart,fun j x e=>?_,fun j m x y v w a e1 e2 e3 e4 o1 o2=>?_⟩
 ·obtain ⟨u,e1,e2⟩:=r.at' j x e;exact ⟨u,by rw [List.getElem?_set_ne (ne j x e)]; exact e1,e2⟩
 ·rw [List.getElem?_set_ne (ne j x e1)] at e3;rw [List.getElem?_set_ne (ne m y e2)] at e4;exact r.one j m x y v w a e1 e2 e3 e4 o1 o2
noncomputable def ji (a c d:Option D):DS:=[a.map .d,none,c.map .d,d.map .d]
theorem xj (a c d:Option D):∀(i:Nat) (x:DV),(ji a c d)[i]?=some (some x)->∃e,x=.d e:=by
 intro i x h;unfold ji at h
 match i,h with
 |0,h=>cases a <;> simp at h; exact ⟨_,h.symm⟩
 |1,h=>simp at h
 |2,h=>cases c <;> simp at h; exact ⟨_,h.symm⟩
 |3,h=>cases d <;> simp at h; exact ⟨_,h.symm⟩
 |i+4,h=>simp at h
section
variable {X:Cx} {LI Mf:Stmt} {tg1 tg2 it1 it2 r:Expr} {p1 p2 p3:Pos} {fi1 fi2:DS->M (List D)} {fp:DS->M DV}
def KS (P:Program) (w:World):TS:=fun D σ H=>∃O xs LN,RS O [] H σ (ji (some (.list xs)) none none)/\fX xs=some LN/\LN.length<=1000/\∀v H',aE H H'->RE O [] H H' (.fz (.dl P w (kL LN))) v->D.rt v H'
theorem zQ (hp:PassesOwn (model X.prog X.w) X.A X.env X.xe) (hc:X.calm=true) (hi2:CG X E0 tg2 it2 fi2) (hg2:PG X tg2 (nH 3)) (h3:PS X Mf (F6 X.prog X.w 1 3 fp)) (M6:∀x,foldedSetIterable it2 X.env x=pure x)
  (e2:∀a c m ts,fi2 (ji a (some (.tuple [m,.list ts])) c)=rt (ts.take 3)) (e3:∀a c m ts,fp (ji a (some (.tuple [m,.list ts])) c)=rt (.d (.list ts))) :
  PS X (.For tg2 it2 [Mf] [] p2) (fun D σ H=>∃O P b l kvs a m ws c n,RS O P H σ (ji a (some (.tuple [m,wD ws])) c)/\σ[1]?=some (some (.ref b))/\BI X.prog X.w O P H b l kvs/\t8 l n/\n+3<1000000 /\
   ∀σ' P' H' Nv c',Kp P H P' H'->RS O P' H' σ' (ji a (some (.tuple [m,wD ws])) c')->σ'[1]?=some (some (.ref b))->BI X.prog X.w O P' H' b (il l ws) Nv->t8 (il l ws) (n+3)->D.nx σ' H'):=
 PS.mono (tO hp hc hi2 hg2 (fE h3) M6) fun D σ H h=>by
  obtain ⟨O,P,b,l,kvs,a,m,ws,c,n,rs,eb,bi,fw,hn,nx⟩:=h;have el:fi2 (ji a (some (.tuple [m,wD ws])) c)=some (.ok ((ws.map tD).take 3)):=e2 a c m (ws.map tD);refine ⟨O,P,_,_,rs,el,fun J H1 s1 it=>?_⟩;have hlen:((ws.map tD).take 3).length<=3:=by rw [List.length_take]; exact Nat.min_le_left _ _
  refine ⟨fun i k σ' H'=>k=((ws.map tD).take 3).length-i/\i<=((ws.map tD).take 3).length/\∃P' l' Nv c',Kp P H1 P' H'/\RS O P' H' σ' (ji a (some (.tuple [m,wD ws])) c')/\σ'[1]?=some (some (.ref b))/\BI X.prog X.w O P' H' b l' Nv/\t8 l' (n+i)/\((ws.take 3).drop i).foldl (fun l t=>fj l t ws) l'=il l ws,⟨_,rfl,Lv _,P,l,kvs,c,.refl,rs.same s1,eb,bi.same s1,fw,rfl⟩,?_⟩;rintro i k σ' H' ⟨rfl,hi,P',l',Nv,c',kp,L1,eb',Oi,Ot,fl⟩;by_cases LV:i<((ws.map tD).take 3).length
  ·have hw:i<(ws.take 3).length:=by rw [<-List.map_take,List.length_map] at LV; exact LV
   obtain ⟨t,et⟩:∃t,(ws.take 3)[i]?=some t:=⟨_,List.getElem?_eq_getElem hw⟩;have etd:((ws.map tD).take 3)[i]?=some (tD t):=by rw [<-List.map_take,List.getElem?_map,et]; rfl
   obtain ⟨go,yl⟩:=(it i P' H' kp).1 (tD t) etd;refine .inr ⟨go,fun σ2 H2=>∃P2 l2 Nh c2,Kp P H1 P2 H2/\RS O P2 H2 σ2 (ji a (some (.tuple [m,wD ws])) c2)/\σ2[1]?=some (some (.ref b))/\BI X.prog X.w O P2 H2 b l2 Nh/\t8 l2 (n+(i+1))/\((ws.take 3).drop (i+1)).foldl (fun l t=>fj l t ws) l2=il l ws,fun σ2 H2 h=>⟨_,0x1,rfl,LV,h⟩,fun x H2 hy=>?_⟩;obtain ⟨rfl,rx⟩:=yl x H2 hy;have NV:RS O P' H2 (σ'.set 3 (some x)) (ji a (some (.tuple [m,wD ws])) (some (tD t))):=L1.set (i:=3) (x:=.d (tD t)) rx (fun _=>nofun) rfl;refine ⟨O,P',_,b,t,ws,l',Nv,NV,xj _ _ _,by rw [List.getElem?_set_ne 0x3]; exact eb',rfl,e3 _ _ _ _,Oi,?_,fun p hp=>?_,fun P2 H3 Nh k2 rs3 bi3=>⟨P2,_,Nh,some (tD t),kp.trans k2,rs3,by rw [List.getElem?_set_ne 0x3]; exact eb',bi3,Ot.add t ws,?_⟩⟩
   ·have h1:=Paired.length Oi.pr;have h2:=Ot.1;lia
   ·have:=Ot.2 p hp; lia
   ·rw [<-fl,List.drop_eq_getElem_cons hw,List.foldl_cons];have:(ws.take 3)[i]=t:=by rw [List.getElem?_eq_getElem hw] at et; exact LD et
    rw [this]
  ·have MK:i=((ws.map tD).take 3).length:=by lia
   have hd:(ws.take 3).drop i=[]:=List.drop_eq_nil_of_le (by rw [MK,<-List.map_take,List.length_map]; exact K9 _);rw [hd] at fl;have fl':l'=il l ws:=fl;rw [fl'] at Oi Ot;exact .inl ⟨(it _ P' H' kp).2 0x1,nx σ' P' H' Nv c' ((Kp.same s1).trans kp) L1 eb' Oi ⟨by have:=Ot.1; lia,fun p hp=>by have:=Ot.2 p hp; lia⟩⟩
theorem C9 (hp:PassesOwn (model X.prog X.w) X.A X.env X.xe) (hc:X.calm=true) (h1:PS X LI (fun D σ H=>∀p,H p=none->D.nx (σ.set 1 (some (.ref p))) (upd H p (dO X.prog X.w p [])))) (hi1:CG X E0 tg1 it1 fi1) (hg1:PG X tg1 (nH 2)) (hs1:∀x,foldedSetIterable it1 X.env x=pure x)
  (hi2:CG X E0 tg2 it2 fi2) (hg2:PG X tg2 (nH 3)) (h3:PS X Mf (F6 X.prog X.w 1 3 fp)) (M6:∀x,foldedSetIterable it2 X.env x=pure x) (hr:PE X r (gy 1))
  (e1:∀xs c d,fi1 (ji (some (.list xs)) c d)=rt xs) (e2:∀a c m ts,fi2 (ji a (some (.tuple [m,.list ts])) c)=rt (ts.take 3)) (e3:∀a c m ts,fp (ji a (some (.tuple [m,.list ts])) c)=rt (.d (.list ts))) :
  qj X [LI,.For tg1 it1 [.For tg2 it2 [Mf] [] p2] [] p1,.Return (some r) p3] (KS X.prog X.w):=
 qj.mono (fP h1 (fP (tO hp hc hi1 hg1 (fE (zQ hp hc hi2 hg2 h3 M6 e2 e3)) hs1) (fE (vM hr)))) fun D σ H h=>by
  obtain ⟨O,xs,LN,rs,ep,hz,q⟩:=h;obtain ⟨hlen,hget⟩:=oN ep;intro b hb;have k0:Kp [] H [b] (upd H b (dO X.prog X.w b [])):=⟨fun a o _ e=>bb hb a o e,fun a ha=>by simp at ha; subst ha; exact .inr hb⟩;have ap0:∀a,a∈[b]->a∉O:=fun a ha z=>by
   simp at ha; subst ha
   obtain ⟨o,e⟩:=rs.dom a z;rw [hb] at e; cases e
  have rs0:RS O [b] (upd H b (dO X.prog X.w b [])) (σ.set 1 (some (.ref b))) (ji (some (.list xs)) none none):=(rs.moved (xj _ _ _) k0 (fun a ha=>by simp at ha; subst ha; exact ⟨_,aM⟩) ap0).free rfl;have hl1:1<σ.length:=by rw [rs.len]; show 1<4; decide
  refine ⟨O,[b],_,_,rs0,e1 xs none none,fun J H1 s1 it=>?_⟩;refine ⟨fun i k σ' H'=>k=xs.length-i/\i<=xs.length/\∃P' l kvs c d,Kp [b] H1 P' H'/\RS O P' H' σ' (ji (some (.list xs)) c d)/\σ'[1]?=some (some (.ref b))/\BI X.prog X.w O P' H' b l kvs/\t8 l (3*i)/\(LN.drop i).foldl il l=kL LN,
   ⟨_,rfl,Lv _,[b],[],[],none,none,.refl,rs0.same s1,by rw [List.getElem?_set_self hl1],⟨K5,s1 _ _ aM,.nil,List.nodup_nil,List.nodup_nil⟩,⟨Lv _,fun _ h=>nomatch h⟩,rfl⟩,?_⟩
  rintro i k σ' H' ⟨rfl,hi,P',l,kvs,c,d,kp,L1,eb',Oi,Ot,fl⟩;by_cases LV:i<xs.length
  ·obtain ⟨m,ws,ed,ew⟩:=hget i xs[i] (List.getElem?_eq_getElem LV);obtain ⟨go,yl⟩:=(it i P' H' kp).1 xs[i] (List.getElem?_eq_getElem LV);refine .inr ⟨go,fun σ2 H2=>∃P2 l2 Nh c2 d2,Kp [b] H1 P2 H2/\RS O P2 H2 σ2 (ji (some (.list xs)) c2 d2)/\σ2[1]?=some (some (.ref b))/\BI X.prog X.w O P2 H2 b l2 Nh/\t8 l2 (3*(i+1))/\(LN.drop (i+1)).foldl il l2=kL LN,fun σ2 H2 h=>⟨_,0x1,rfl,LV,h⟩,fun x H2 hy=>?_⟩;obtain ⟨rfl,rx⟩:=yl x H2 hy;rw [ed] at rx;have NV:RS O P' H2 (σ'.set 2 (some x)) (ji (some (.list xs)) (some (.tuple [m,wD ws])) d):=L1.set (i:=2) (x:=.d (.tuple [m,wD ws])) rx (fun _=>nofun) rfl;refine ⟨O,P',b,l,kvs,_,m,ws,d,3*i,NV,by rw [List.getElem?_set_ne 0x3]; exact eb',Oi,Ot,0x1,fun σ3 P3 H3 kvs3 c3 k3 rs3 eb3 bi3 fw3=>⟨P3,_,kvs3,_,c3,kp.trans k3,rs3,eb3,bi3,fw3,?_⟩⟩;have hw:i<LN.length:=by lia
   rw [<-fl,List.drop_eq_getElem_cons hw,List.foldl_cons];have:LN[i]=ws:=by rw [List.getElem?_eq_getElem hw] at ew; exact LD ew
   rw [this]
  ·have MK:i=xs.length:=by lia
   have hd:LN.drop i=[]:=List.drop_eq_nil_of_le 0x1;rw [hd] at fl;have fl':l=kL LN:=fl;rw [fl'] at Oi;refine .inl ⟨(it _ P' H' kp).2 0x1,.ref b,eb',?_⟩;have kk:=(k0.trans (Kp.same s1)).trans kp;exact q _ H' (fun a o e=>kk.keep a o 0x4 e) (Oi.told L1.apart)
end
end L3
namespace LW
open PySem PySem.Spec L2 L3
noncomputable def jl (h:List Tl) (j:Int) (w:List Tl):Int:=j-((w.length:Int)-((h.length:Int)-((aq h w).length:Int)))
noncomputable def aZ (h:List Tl):Int:=(h.map (·.1)).sum
theorem eL (h a b:List Tl):aq h (a++b)=aq (aq h a) b:=List.foldl_append
variable {a b:List Tl}
theorem jU (p:a.Perm b):∀h:List Tl,aq h a=aq h b:=by
 induction p with
 |nil=>intro h; rfl
 |cons x _ ih=>intro h; exact ih (h.erase x)
 |swap x y l=>intro h; show aq ((h.erase y).erase x) l=aq ((h.erase x).erase y) l; rw [List.erase_comm]
 |trans _ _ ih1 ih2=>intro h; exact (ih1 h).trans (ih2 h)
theorem jR (w h:List Tl):(aq h w).length<=h.length/\h.length<=(aq h w).length+w.length:=by
 induction w generalizing h with
 |nil=>exact ⟨K9 _,by show h.length<=h.length+0; lia⟩
 |cons x r ih=>
  have h1:=ih (h.erase x);have h2:=List.length_erase (a:=x) (l:=h);show (aq (h.erase x) r).length<=_/\_<=(aq (h.erase x) r).length+(x::r).length;rw [List.length_cons];split at h2 <;> lia
theorem hV (h:List Tl) (j:Int) (a b:List Tl):jl h j (a++b)=jl (aq h a) (jl h j a) b:=by
 unfold jl;rw [eL,List.length_append];lia
theorem jw (h:List Tl) (j:Int) (w:List Tl):jl h j w<=j:=by
 have:=jR w h;unfold jl; lia
theorem xE (h:List Tl) (j:Int) (a b:List Tl):jl h j (a++b)<=jl h j a:=by
 rw [hV]; exact jw _ _ _
theorem xI (p:a.Perm b) (h:List Tl) (j:Int):jl h j a=jl h j b:=by
 unfold jl; rw [jU p,p.length_eq]
variable {t:Tl} {w:List Tl}
theorem ud (hw:t∉w) (r:List Tl):aq (t::r) w=t::aq r w:=by
 induction w generalizing r with
 |nil=>rfl
 |cons x w ih=>
  have hx:t≠x:=fun e=>hw (e▸K5);show aq ((t::r).erase x) w=t::aq (r.erase x) w;rw [List.erase_cons_tail (by simpa using hx),ih (fun h=>hw (K3 _ h))]
theorem zD:∀{h:List Tl},(∀x∈w,x∉h)->aq h w=h:=by
 induction w with
 |nil=>intro h _; rfl
 |cons x w ih=>
  intro h hx;show aq (h.erase x) w=h;rw [List.erase_of_not_mem (hx x K5)];exact ih fun y hy=>hx y (K3 _ hy)
noncomputable def CC:List Tl->List Tl
 |[]=>[]
 |x::r=>if x∈CC r then CC r else x::CC r
theorem me:∀{l:List Tl} {x:Tl},x∈l->x∈CC l
 |y::r,x,h=>by
  unfold CC;split
  ·rename_i hy;rcases Lj.mp h with e|h
   ·rw [e]; exact hy
   ·exact me h
  ·rcases Lj.mp h with e|h
   ·rw [e]; exact K5
   ·exact K3 _ (me h)
theorem mX:∀l:List Tl,(CC l).Nodup
 |[]=>List.nodup_nil
 |x::r=>by
  unfold CC;split
  ·exact mX r
  ·rename_i h; exact List.nodup_cons.mpr ⟨h,mX r⟩
theorem B7 {f g:Tl->Int}:∀{ks:List Tl},(∀p∈ks,f p<=g p)->(ks.map f).sum<=(ks.map g).sum
 |[],_=>Int.le_refl _
 |x::r,h=>by
  have h1:=h x K5;have h2:=B7 (ks:=r) fun p hp=>h p (K3 _ hp);simp only [List.map_cons,List.sum_cons];lia
variable {h:List Tl}
theorem Ap {f:Tl->Int} {u v:List Tl} (hf:∀p,p∈h->0<=f p) (hfa:∀p,p∈a->0<=f p) (hfb:∀p,p∈b->0<=f p) (hc:∀p,h.count p-w.count p<=(a.count p-u.count p)+(b.count p-v.count p)) :
  ((aq h w).map f).sum<=((aq a u).map f).sum+((aq b v).map f).sum:=by
 have hn:=mX (h++(a++b));have m1:∀x∈aq h w,x∈CC (h++(a++b)):=fun x hx=>me (K8 _ ((cp w h).subset hx));have m2:∀x∈aq a u,x∈CC (h++(a++b)):=fun x hx=>me (K7 _ (K8 _ ((cp u a).subset hx)));have m3:∀x∈aq b v,x∈CC (h++(a++b)):=fun x hx=>me (K7 _ (K7 _ ((cp v b).subset hx)));rw [Dm f hn _ m1,Dm f hn _ m2,Dm f hn _ m3,<-sh];refine B7 fun p _=>?_;rw [iP,iP,iP];have hp:=hc p;by_cases hz:0<=f p
 ·rw [<-Int.add_mul];exact Int.mul_le_mul_of_nonneg_right 0x1 hz
 ·have z1:h.count p=0:=List.count_eq_zero.mpr fun hm=>hz (hf p hm);have z2:a.count p=0:=List.count_eq_zero.mpr fun hm=>hz (hfa p hm);have z3:b.count p=0:=List.count_eq_zero.mpr fun hm=>hz (hfb p hm);rw [z1,z2,z3]; simp
theorem sZ (l:List Tl):(l.map fun _=>(1:Int)).sum=(l.length:Int):=by
 induction l with
 |nil=>rfl
 |cons x r ih=>simp only [List.map_cons,List.sum_cons,List.length_cons,ih]; lia
theorem Et {u v:List Tl} (hp:h.Perm (a++b)) (hf:∀p∈h,0<=p.1) (j k:Int):aZ (aq h (u++v))<=aZ (aq a u)+aZ (aq b v)/\jl a j u+jl b k v<=jl h (j+k) (u++v):=by
 have hc:∀p,h.count p-(u++v).count p<=(a.count p-u.count p)+(b.count p-v.count p):=fun p=>by
  rw [hp.count_eq,List.count_append,List.count_append]; lia
 have ha:∀p,p∈a->p∈h:=fun p h'=>hp.mem_iff.mpr (K8 _ h');have hb:∀p,p∈b->p∈h:=fun p h'=>hp.mem_iff.mpr (K7 _ h');refine ⟨Ap hf (fun p h'=>hf p (ha p h')) (fun p h'=>hf p (hb p h')) hc,?_⟩;have:=Ap (f:=fun _=>1) (fun _ _=>0x3) (fun _ _=>0x3) (fun _ _=>0x3) hc;rw [sZ,sZ,sZ] at this;have hl:=hp.length_eq;rw [List.length_append] at hl;unfold jl;rw [List.length_append];lia
variable {r:List Tl}
theorem E8 (hf:∀p∈t::r,0<=p.1) (j:Int):aZ (aq (t::r) w)<=t.1+aZ (aq r w)/\jl r j w<=jl (t::r) j w:=by
 have:=Et (h:=t::r) (a:=[t]) (u:=[]) (b:=r) (v:=w) (List.Perm.refl _) hf 0 j;have e:aZ (aq [t] [])=t.1:=by show t.1+0=t.1; lia
 have e2:jl [t] 0 []=0:=by unfold jl; show (0:Int)-(0-(1-1))=0; lia
 rw [e,e2] at this;simpa using this
theorem nC (hf:∀p∈h,0<=p.1):0<=aZ h:=by
 induction h with
 |nil=>exact Int.le_refl _
 |cons t r ih=>
  have h1:=hf t K5;have h2:=ih fun p hp=>hf p (K3 _ hp);show 0<=t.1+aZ r;lia
def zO (a b:Tl):Prop:=a.1<b.1\/a.1=b.1/\a.2<=b.2
def GH (a b:Tl):Prop:=a.1<b.1\/a.1=b.1/\a.2<b.2
theorem Ei {a b:Tl} (h:GH a b) (h':zO b a):False:=by unfold GH at h; unfold zO at h'; lia
noncomputable def fJ (l:By) (h:List Tl) (j:Int):List (List Tl×Int):=match h with
 |[]=>[]
 |t::r=>((c0 l t).map fun w=>(aq (t::r) w,jl (t::r) j w)).filter fun q=>decide (0<=q.2)
noncomputable def LL (l:By):Nat->List Tl->Int->Int
 |0,_,_=>0
 |_+1,[],_=>0
 |n+1,t::r,j=>xQ ((t.1+LL l n r j)::(fJ l (t::r) j).map fun q=>LL l n q.1 q.2)
structure Play (AM:List (List Tl)) (h:List Tl) (j:Int) (Ws:List (List Tl)):Prop where
 mem:∀w∈Ws,w∈AM
 jok:0<=jl h j Ws.flatten
theorem B2 {l:By} {j:Int} (hw:w∈c0 l t) (hj:0<=jl (t::r) j w):(aq (t::r) w,jl (t::r) j w)∈fJ l (t::r) j:=
 Lo.mpr ⟨Ll.mpr ⟨w,hw,rfl⟩,by simpa using hj⟩
theorem n9 {l:By} {j:Int} {q:List Tl×Int} (h:q∈fJ l (t::r) j):∃w∈c0 l t,q=(aq (t::r) w,jl (t::r) j w)/\0<=jl (t::r) j w:=by
 obtain ⟨h1,h2⟩:=Lo.mp h;obtain ⟨w,hw,rfl⟩:=Ll.mp h1;exact ⟨w,hw,rfl,by simpa using h2⟩
theorem g8 (h:t∈w):(aq (t::r) w).length<=r.length:=by
 obtain ⟨a,b,rfl⟩:=List.append_of_mem h;have p:(a++t::b).Perm (t::(a++b)):=List.perm_middle;rw [jU p];show (aq ((t::r).erase t) (a++b)).length<=r.length;rw [List.erase_cons_head];exact (jR _ _).1
theorem wH {l:By} {AM:List (List Tl)} (hs:∀w∈AM,w.Pairwise GH) (bg:∀t w,w∈AM->t∈w.take 3->w∈c0 l t):∀(n:Nat) (h:List Tl) (j:Int) (Ws:List (List Tl)),h.length<=n->h.Pairwise zO->(∀p∈h,0<=p.1)->j<=2->Play AM h j Ws->LL l n h j<=aZ (aq h Ws.flatten)
 |0,h,j,Ws,hl,_,hf,_,_=>by
  have:h=[]:=LH 0x1;subst this;exact nC fun p hp=>hf p ((cp _ _).subset hp)
 |n+1,[],j,Ws,hl,_,hf,_,_=>nC fun p hp=>hf p ((cp _ _).subset hp)
 |n+1,t::r,j,Ws,hl,ho,hf,hj,pl=>by
  rw [List.length_cons] at hl;rw [List.pairwise_cons] at ho;by_cases ht:t∈Ws.flatten
  ·obtain ⟨w,hw,htw⟩:=List.mem_flatten.mp ht;obtain ⟨A,B,rfl⟩:=List.append_of_mem hw;have pw:(A++w::B).flatten.Perm (w++(A++B).flatten):=by
    rw [List.flatten_append,List.flatten_cons,List.flatten_append,<-List.append_assoc,<-List.append_assoc];exact (List.perm_append_comm).append_right _
   have hj0:0<=jl (t::r) j (w++(A++B).flatten):=by rw [<-xI pw]; exact pl.jok
   have hjw:0<=jl (t::r) j w:=LG hj0 (xE _ _ _ _);have hwA:w∈AM:=pl.mem w 0x4;have h3:t∈w.take 3:=by
    obtain ⟨a,b,rfl⟩:=List.append_of_mem htw;have Nl:=hs _ hwA;rw [List.pairwise_append] at Nl;have out:∀x∈a,x∉t::r:=fun x hx hm=>by
     have h1:=Nl.2.2 x hx t K5;rcases Lj.mp hm with e|hm
     ·subst e; unfold GH at h1; lia
     ·exact Ei h1 (ho.1 x hm)
    have e1:aq (t::r) (a++t::b)=aq (t::r) (t::b):=by rw [eL,zD out]
    have e2:=jR (t::b) (t::r);unfold jl at hjw;rw [e1,List.length_append] at hjw;have hla:a.length<=2:=by lia
    rw [List.take_append];refine K7 _ ?_;obtain ⟨k,hk⟩:∃k,3-a.length=k+1:=⟨2-a.length,0x1⟩;rw [hk,List.take_succ_cons];exact K5
   have hm:=B2 (l:=l) (bg t w hwA h3) hjw;have hle:LL l (n+1) (t::r) j<=LL l n (aq (t::r) w) (jl (t::r) j w):=sd (K3 _ (Ll.mpr ⟨_,hm,rfl⟩));have Ma:=cp w (t::r);have ih:=wH hs bg n (aq (t::r) w) (jl (t::r) j w) (A++B) (Lw (g8 htw) 0x1) ((Lr.mpr ho).sublist Ma) (fun p hp=>hf p (Ma.subset hp)) (LG (jw _ _ _) hj) ⟨fun x hx=>pl.mem x (by rcases Lk.mp hx with h|h <;> simp [h]),by rw [<-hV]; exact hj0⟩;rw [jU pw,eL];lia
  ·rw [ud ht];have e1:jl r j Ws.flatten=jl (t::r) j Ws.flatten:=by unfold jl; rw [ud ht,List.length_cons,List.length_cons]; lia
   have ih:=wH hs bg n r j Ws 0x1 ho.2 (fun p hp=>hf p (K3 _ hp)) hj ⟨pl.mem,by rw [e1]; exact pl.jok⟩;have hle:LL l (n+1) (t::r) j<=t.1+LL l n r j:=sd K5;show _<=t.1+aZ (aq r Ws.flatten);lia
theorem vz {l:By} {AM:List (List Tl)} (bs:∀t w,w∈c0 l t->w∈AM/\t∈w):∀(n:Nat) (h:List Tl) (j:Int),h.length<=n->(∀p∈h,0<=p.1)->0<=j->∃Ws,Play AM h j Ws/\aZ (aq h Ws.flatten)<=LL l n h j
 |0,h,j,hl,_,hj=>by
  have:h=[]:=LH 0x1;subst this;exact ⟨[],⟨fun _ h=>(nomatch h),by unfold jl; show 0<=j-(0-(0-0)); lia⟩,Int.le_refl _⟩
 |n+1,[],j,hl,_,hj=>⟨[],⟨fun _ h=>(nomatch h),by unfold jl; show 0<=j-(0-(0-0)); lia⟩,Int.le_refl _⟩
 |n+1,t::r,j,hl,hf,hj=>by
  rw [List.length_cons] at hl;have hmem:LL l (n+1) (t::r) j∈(t.1+LL l n r j)::(fJ l (t::r) j).map fun q=>LL l n q.1 q.2:=sj 0x4;rcases Lj.mp hmem with e|h
  ·obtain ⟨Ws,pl,hle⟩:=vz bs n r j 0x1 (fun p hp=>hf p (K3 _ hp)) hj;obtain ⟨c1,c2⟩:=E8 (t:=t) (r:=r) (w:=Ws.flatten) hf j;exact ⟨Ws,⟨pl.mem,LG pl.jok c2⟩,0x1⟩
  ·obtain ⟨q,hq,e⟩:=Ll.mp h;obtain ⟨w,hw,rfl,hjw⟩:=n9 hq;obtain ⟨hwA,htw⟩:=bs t w hw;obtain ⟨Ws,pl,hle⟩:=vz bs n (aq (t::r) w) (jl (t::r) j w) (Lw (g8 htw) 0x1) (fun p hp=>hf p ((cp _ _).subset hp)) hjw;refine ⟨w::Ws,⟨fun x hx=>?_,?_⟩,?_⟩
   ·rcases Lj.mp hx with e|h
    ·rw [e]; exact hwA
    ·exact pl.mem x h
   ·rw [List.flatten_cons,hV]; exact pl.jok
   ·rw [List.flatten_cons,eL,<-e]; exact hle
section
variable (m c:Int) (ps:List (Int×Int)) (cell:Int)
theorem Jt (δ:DS) (i:Nat) (hi:δ[i]?=some (some (.d (.list (ps.map pr))))):aR c6 (aa (af i) ai) δ=rt (.d (.int (ps.length:Int))):=by
 have hv:af i δ=rt (.d (.list (ps.map pr))):=by unfold af; rw [hi]; rfl
 rw [cC (bp hv)];exact hJ ps
end
end LW
namespace L3
open PySem PySem.Spec L2
open PyProof.Rows hiding St
noncomputable def tq:Bool->Keyed->Array Keyed->Nat->Nat->Nat->StateT SortSt Sem (Option Nat):=sortPriv% PySem.Builtin.gallop
def nN (M:Model) (A:Around) (E:Value->Shared->Prop) (s:Shared) (κ:SortKind) (key:Keyed->List Int) (P:Keyed->Prop):Prop:=
 ∀(x y:Keyed) (st:SortSt) (Q:Option Bool->SortSt->Prop),kindOf st=κ->P x->P y->Q (some (ll (key x) (key y))) st->wpS M A E s (lt' x y) Q st
noncomputable def J7 (key:Keyed->List Int) (left:Bool) (k x:Keyed):Bool:=if left=true then ll (key x) (key k) else !ll (key k) (key x)
section
variable {M:Model} {A:Around} {E:Value->Shared->Prop} {s:Shared} {κ:SortKind} {key:Keyed->List Int} {P:Keyed->Prop}
theorem aW {arr:Array Keyed} {i:Nat} {x:Keyed} {st:SortSt} {Q:Keyed->SortSt->Prop} (h:arr[i]?=some x) (hq:Q x st):wpS M A E s (elem' arr i) Q st:=by
 rw [elem'_eq,h]; exact wpS_pure hq
theorem rB (hA:nN M A E s κ key P) {left:Bool} {k:Keyed} {arr:Array Keyed} {base n hint:Nat} {st:SortSt} {Q:Option Nat->SortSt->Prop} (hk:kindOf st=κ)
  (hP:∀i,i<n->∃x,arr[base+i]?=some x/\P x) (hPk:P k) (hh:hint<n) (b:Nat->Bool) (hb:∀i x,i<n->arr[base+i]?=some x->b i=J7 key left k x)
  (mono:∀i j,i<=j->j<n->b j=true->b i=true)
  (h:∀r,r<=n->(∀i,i<r->b i=true)->(∀i,r<=i->i<n->b i=false)->Q (some r) st):wpS M A E s (tq left k arr base n hint) Q st:=by
 have ask:∀(i:Nat) (Q':Option Bool->SortSt->Prop),i<n->Q' (some (b i)) st->wpS M A E s (do let x <-elem' arr (base+i); if left=true then lt' x k else (do let r <-lt' k x; pure (r.map fun x=>!x))) Q' st:=fun i Q' hi hq=>by
  obtain ⟨x,ex,px⟩:=hP i hi;rw [hb i x hi ex] at hq;refine wpS_bind (aW ex ?_);cases left with
  |true=>exact hA x k st _ hk px hPk hq
  |false=>exact wpS_bind (hA k x st _ hk hPk px (wpS_pure hq))
 refine wpS_bind (ask hint _ hh ?_);dsimp only;cases c:b hint with
 |true=>
  rw [if_pos rfl];refine wpS_bind (wpS_mono (wpS_forRange (I:=fun x c F'=>F'=st/\∃l o,c=(none,l,o)/\l<o/\x<=l/\l<n-hint/\b (hint+l)=true)
   (Q:=fun c F'=>F'=st/\∃l o,c=(none,l,o)/\l<o/\l<n-hint/\b (hint+l)=true/\(o>=n-hint\/(hint+o<n/\b (hint+o)=false))) ?_ ?_ ⟨rfl,0,1,rfl,0x1,0x1,0x1,c⟩) ?_)
  ·rintro x c F' _ hx ⟨rfl,l,o,rfl,h1,h2,h3,h4⟩;dsimp only;by_cases ho:o>=n-hint
   ·rw [if_pos ho]; exact wpS_pure ⟨rfl,l,o,rfl,h1,h3,h4,.inl ho⟩
   ·rw [if_neg ho];refine wpS_bind (ask (hint+o) _ 0x1 ?_);dsimp only;cases c2:b (hint+o) with
    |true=>exact wpS_pure ⟨rfl,o,2*o+1,rfl,0x1,0x1,0x1,c2⟩
    |false=>exact wpS_pure ⟨rfl,l,o,rfl,h1,h3,h4,.inr ⟨0x1,c2⟩⟩
  ·rintro c F' ⟨rfl,l,o,rfl,h1,h2,h3,h4⟩;exact absurd h2 0x1
  ·rintro c F' ⟨rfl,l,o,rfl,h1,h2,h3,h4⟩;dsimp only;have lo1:∀i,i<hint+l+1->b i=true:=fun i hi=>mono i (hint+l) 0x1 0x1 h3;have hi1:∀i,hint+min o (n-hint)<=i->i<n->b i=false:=fun i q1 q2=>by
    rcases h4 with h4|⟨h4,h5⟩
    ·lia
    ·cases c3:b i with
     |false=>rfl
     |true=>rw [mono (hint+o) i 0x1 q2 c3] at h5; cases h5
   have lh:hint+l+1<=hint+min o (n-hint):=by lia
   have hn:hint+min o (n-hint)<=n:=by lia
   generalize hint+l+1=lo at *;generalize hint+min o (n-hint)=hi at *;clear h1 h2 h3 h4;refine wpS_bind (wpS_mono (wpS_forRange (I:=fun x c Mi=>Mi=F'/\∃l o,c=(none,l,o)/\l<=o/\o<=n/\o-l<=n-x/\(∀i,i<l->b i=true)/\∀i,o<=i->i<n->b i=false)
    (Q:=fun c Mi=>Mi=F'/\∃l,c=(none,l,l)/\l<=n/\(∀i,i<l->b i=true)/\∀i,l<=i->i<n->b i=false) ?_ ?_ ⟨rfl,lo,hi,rfl,lh,hn,0x1,lo1,hi1⟩) ?_)
   ·rintro x c Mi _ hx ⟨rfl,l,o,rfl,q1,q2,q3,q4,q5⟩;dsimp only;by_cases Nb:l>=o
    ·rw [if_pos Nb];have:l=o:=by lia
     subst this;exact wpS_pure ⟨rfl,l,rfl,q2,q4,q5⟩
    ·rw [if_neg Nb];refine wpS_bind (ask (l+(o-l) / 2) _ 0x1 ?_);dsimp only;cases c2:b (l+(o-l) / 2) with
     |true=>exact wpS_pure ⟨rfl,_,_,rfl,0x1,q2,0x1,fun i hi=>mono i _ 0x1 0x1 c2,q5⟩
     |false=>
      refine wpS_pure ⟨rfl,_,_,rfl,0x1,0x1,0x1,q4,fun i u1 u2=>?_⟩;cases c3:b i with
      |false=>rfl
      |true=>rw [mono _ i u1 u2 c3] at c2; cases c2
   ·rintro c Mi ⟨rfl,l,o,rfl,q1,q2,q3,q4,q5⟩;have:l=o:=by lia
    subst this;exact ⟨rfl,l,rfl,q2,q4,q5⟩
   ·rintro c Mi ⟨rfl,l,rfl,q2,q4,q5⟩;exact wpS_pure (h l q2 q4 q5)
 |false=>
  rw [if_neg 0x4];refine wpS_bind (wpS_mono (wpS_forRange (I:=fun x c F'=>F'=st/\∃l o,c=(none,l,o)/\l<o/\x<=l/\l<=hint/\b (hint-l)=false)
   (Q:=fun c F'=>F'=st/\∃l o,c=(none,l,o)/\l<o/\l<=hint/\b (hint-l)=false/\(o>=hint+1\/(o<=hint/\b (hint-o)=true))) ?_ ?_ ⟨rfl,0,1,rfl,0x1,0x1,0x1,c⟩) ?_)
  ·rintro x c F' _ hx ⟨rfl,l,o,rfl,h1,h2,h3,h4⟩;dsimp only;by_cases ho:o>=hint+1
   ·rw [if_pos ho]; exact wpS_pure ⟨rfl,l,o,rfl,h1,h3,h4,.inl ho⟩
   ·rw [if_neg ho];refine wpS_bind (ask (hint-o) _ 0x1 ?_);dsimp only;cases c2:b (hint-o) with
    |true=>exact wpS_pure ⟨rfl,l,o,rfl,h1,h3,h4,.inr ⟨0x1,c2⟩⟩
    |false=>exact wpS_pure ⟨rfl,o,2*o+1,rfl,0x1,0x1,0x1,c2⟩
  ·rintro c F' ⟨rfl,l,o,rfl,h1,h2,h3,h4⟩;exact absurd h2 0x1
  ·rintro c F' ⟨rfl,l,o,rfl,h1,h2,h3,h4⟩;dsimp only;have lo1:∀i,i<hint+1-min o (hint+1)->b i=true:=fun i hi=>by
    rcases h4 with h4|⟨h4,h5⟩
    ·lia
    ·exact mono i (hint-o) 0x1 0x1 h5
   have hi1:∀i,hint-l<=i->i<n->b i=false:=fun i q1 q2=>by
    cases c3:b i with
    |false=>rfl
    |true=>rw [mono (hint-l) i 0x1 q2 c3] at h3; cases h3
   have lh:hint+1-min o (hint+1)<=hint-l:=by lia
   have hn:hint-l<=n:=by lia
   generalize hint+1-min o (hint+1)=lo at *;generalize hint-l=hi at *;clear h1 h2 h3 h4;refine wpS_bind (wpS_mono (wpS_forRange (I:=fun x c Mi=>Mi=F'/\∃l o,c=(none,l,o)/\l<=o/\o<=n/\o-l<=n-x/\(∀i,i<l->b i=true)/\∀i,o<=i->i<n->b i=false)
    (Q:=fun c Mi=>Mi=F'/\∃l,c=(none,l,l)/\l<=n/\(∀i,i<l->b i=true)/\∀i,l<=i->i<n->b i=false) ?_ ?_ ⟨rfl,lo,hi,rfl,lh,hn,0x1,lo1,hi1⟩) ?_)
   ·rintro x c Mi _ hx ⟨rfl,l,o,rfl,q1,q2,q3,q4,q5⟩;dsimp only;by_cases Nb:l>=o
    ·rw [if_pos Nb];have:l=o:=by lia
     subst this;exact wpS_pure ⟨rfl,l,rfl,q2,q4,q5⟩
    ·rw [if_neg Nb];refine wpS_bind (ask (l+(o-l) / 2) _ 0x1 ?_);dsimp only;cases c2:b (l+(o-l) / 2) with
     |true=>exact wpS_pure ⟨rfl,_,_,rfl,0x1,q2,0x1,fun i hi=>mono i _ 0x1 0x1 c2,q5⟩
     |false=>
      refine wpS_pure ⟨rfl,_,_,rfl,0x1,0x1,0x1,q4,fun i u1 u2=>?_⟩;cases c3:b i with
      |false=>rfl
      |true=>rw [mono _ i u1 u2 c3] at c2; cases c2
   ·rintro c Mi ⟨rfl,l,o,rfl,q1,q2,q3,q4,q5⟩;have:l=o:=by lia
    subst this;exact ⟨rfl,l,rfl,q2,q4,q5⟩
   ·rintro c Mi ⟨rfl,l,rfl,q2,q4,q5⟩;exact wpS_pure (h l q2 q4 q5)
end
def Le (key:Keyed->List Int) (x y:Keyed):Prop:=ll (key y) (key x)=false
section
variable {key:Keyed->List Int}
theorem Le.refl (x:Keyed):Le key x x:=eG _
theorem Le.trans {x y z:Keyed} (h1:Le key x y) (h2:Le key y z):Le key x z:=gq h1 h2
variable {x y:Keyed}
theorem Le.of_lt (h:ll (key x) (key y)=true):Le key x y:=fF h
def eZ (key:Keyed->List Int) (arr:Array Keyed) (lo hi:Nat):Prop:=∀i j x y,lo<=i->i<=j->j<hi->arr[i]?=some x->arr[j]?=some y->Le key x y
variable {arr:Array Keyed}
theorem jx:arr.toList.Pairwise (Le key)↔eZ key arr 0 arr.size:=by
 constructor
 ·intro h i j x y _ Ov hj ex ey;rcases Nat.lt_or_ge i j with LV|hge
  ·obtain ⟨Oo,rfl⟩:=Lu.mp ex;obtain ⟨NZ,rfl⟩:=Lu.mp ey;have:=List.pairwise_iff_getElem.mp h i j (by simpa using Oo) (by simpa using NZ) LV;simpa using this
  ·have:i=j:=by lia
   subst this;rw [ex] at ey; cases ey; exact Le.refl _
 ·intro h;refine List.pairwise_iff_getElem.mpr fun i j hi hj Ov=>?_;have Oo:i<arr.size:=by simpa using hi
  have NZ:j<arr.size:=by simpa using hj
  exact h i j _ _ (Lv _) (Nat.le_of_lt Ov) NZ (by simp [Oo]) (by simp [NZ])
variable {i:Nat}
theorem c9 (h:i<arr.size):∃x,arr[i]?=some x/\x∈arr.toList:=⟨arr[i],by simp [h],0x4⟩
theorem iy (h:y∈arr.toList.drop i):∃j,i<=j/\j<arr.size/\arr[j]?=some y:=by
 obtain ⟨j,hj,rfl⟩:=List.getElem_of_mem h;simp at hj;refine ⟨i+j,0x1,0x1,?_⟩;have:i+j<arr.size:=by lia
 simp [this]
theorem ie (h:y∈arr.toList.take i):∃j,j<i/\j<arr.size/\arr[j]?=some y:=by
 obtain ⟨j,hj,rfl⟩:=List.getElem_of_mem h;simp at hj;refine ⟨j,0x1,0x1,?_⟩;have:j<arr.size:=by lia
 simp [this]
variable {k:Nat}
theorem d7 (h:y∈(arr.extract i k).toList):∃j,i<=j/\j<k/\j<arr.size/\arr[j]?=some y:=by
 obtain ⟨j,hj,rfl⟩:=List.getElem_of_mem h;simp at hj;refine ⟨i+j,0x1,0x1,0x1,?_⟩;have:i+j<arr.size:=by lia
 simp [this]
theorem ot:(arr.extract i).toList=arr.toList.drop i:=by
 rw [Array.toList_extract,List.extract_eq_take_drop];exact List.take_of_length_le 0x4
theorem jY:(arr.extract 0 i).toList=arr.toList.take i:=by
 rw [Array.toList_extract,List.extract_eq_take_drop];rfl
theorem xk (h:arr[i]?=some x):arr.toList.drop i=x::arr.toList.drop (i+1):=by
 obtain ⟨hi,rfl⟩:=Lu.mp h;have Oo:i<arr.toList.length:=by simpa using hi
 rw [List.drop_eq_getElem_cons Oo];simp
theorem ye (h:arr[i]?=some x):arr.toList.take (i+1)=arr.toList.take i++[x]:=by
 obtain ⟨hi,rfl⟩:=Lu.mp h;have Oo:i<arr.toList.length:=by simpa using hi
 rw [List.take_succ_eq_append_getElem Oo];simp
theorem oJ:arr.toList.drop i=(arr.extract i (i+k)).toList++arr.toList.drop (i+k):=by
 rw [Array.toList_extract,List.extract_eq_take_drop,<-List.drop_drop,show i+k-i=k by lia,List.take_append_drop]
theorem jq (h:i<=k):arr.toList.take k=arr.toList.take i++(arr.extract i k).toList:=by
 rw [Array.toList_extract,List.extract_eq_take_drop]
 conv=>lhs; rw [show k=i+(k-i) by lia,List.take_add]
structure MI (key:Keyed->List Int) (la lb o ra rb:List Keyed):Prop where
 perm:(o++(ra++rb)).Perm (la++lb)
 so:o.Pairwise (Le key)
 sa:ra.Pairwise (Le key)
 sb:rb.Pairwise (Le key)
 oa:∀x∈o,∀y∈ra,Le key x y
 ob:∀x∈o,∀y∈rb,Le key x y
def n8 (key:Keyed->List Int) (la lb r:List Keyed):Prop:=r.Perm (la++lb)/\r.Pairwise (Le key)
variable {la lb o ra rb:List Keyed}
theorem MI.a {c:List Keyed} (h:MI key la lb o (c++ra) rb) (hc:∀x∈c,∀y∈rb,Le key x y):MI key la lb (o++c) ra rb:=by
 obtain ⟨p,so,sa,sb,oa,ob⟩:=h;obtain ⟨s1,s2,s3⟩:=Ls.mp sa;refine ⟨?_,Ls.mpr ⟨so,s1,fun x hx y hy=>oa x hx y (K8 _ hy)⟩,s2,sb,fun x hx y hy=>?_,fun x hx y hy=>?_⟩
 ·simpa using p
 ·rcases Lk.mp hx with q|q
  ·exact oa x q y (K7 _ hy)
  ·exact s3 x q y hy
 ·rcases Lk.mp hx with q|q
  ·exact ob x q y hy
  ·exact hc x q y hy
theorem MI.b {c:List Keyed} (h:MI key la lb o ra (c++rb)) (hc:∀x∈c,∀y∈ra,Le key x y):MI key la lb (o++c) ra rb:=by
 obtain ⟨p,so,sa,sb,oa,ob⟩:=h;obtain ⟨s1,s2,s3⟩:=Ls.mp sb;refine ⟨?_,Ls.mpr ⟨so,s1,fun x hx y hy=>ob x hx y (K8 _ hy)⟩,sa,s2,fun x hx y hy=>?_,fun x hx y hy=>?_⟩
 ·refine List.Perm.trans ?_ p;have:(c++(ra++rb)).Perm (ra++(c++rb)):=by
   rw [<-List.append_assoc,<-List.append_assoc];exact List.perm_append_comm.append_right _
  rw [List.append_assoc];exact this.append_left o
 ·rcases Lk.mp hx with q|q
  ·exact oa x q y hy
  ·exact hc x q y hy
 ·rcases Lk.mp hx with q|q
  ·exact ob x q y (K7 _ hy)
  ·exact s3 x q y hy
theorem MI.ab (h:MI key la lb o ra rb) (hc:∀x∈ra,∀y∈rb,Le key x y):n8 key la lb (o++ra++rb):=by
 have h1:MI key la lb (o++ra) [] rb:=MI.a (by simpa using h) hc;have h2:MI key la lb (o++ra++rb) [] []:=MI.b (by simpa using h1) (fun _ _ _ hy=>nomatch hy);exact ⟨by simpa using h2.perm,h2.so⟩
theorem MI.ba (h:MI key la lb o ra rb) (hc:∀x∈rb,∀y∈ra,Le key x y):n8 key la lb (o++rb++ra):=by
 have h1:MI key la lb (o++rb) ra []:=MI.b (by simpa using h) hc;have h2:MI key la lb (o++rb++ra) [] []:=MI.a (by simpa using h1) (fun _ _ _ hy=>nomatch hy);exact ⟨by simpa using h2.perm,h2.so⟩
end
structure Sm (st F':SortSt):Prop where
 kind:kindOf F'=kindOf st
 arr:arrOf F'=arrOf st
 pend:pendingOf F'=pendingOf st
 failed:failedOf F'=failedOf st
theorem Sm.refl (st:SortSt):Sm st st:=⟨rfl,rfl,rfl,rfl⟩
theorem Sm.trans {a b c:SortSt} (h1:Sm a b) (h2:Sm b c):Sm a c:=⟨h2.kind.trans h1.kind,h2.arr.trans h1.arr,h2.pend.trans h1.pend,h2.failed.trans h1.failed⟩
noncomputable def Jm:Nat->StateT SortSt Sem Unit:=sortPriv% PySem.Builtin.setMinGallop
section
variable {M:Model} {A:Around} {E:Value->Shared->Prop} {s:Shared} {κ:SortKind} {key:Keyed->List Int} {P:Keyed->Prop}
variable {st:SortSt}
theorem tf {g:Nat} {Q:Unit->SortSt->Prop} (h:∀F',Sm st F'->Q () F'):wpS M A E s (Jm g) Q st:=wpS_modify (h _ ⟨rfl,rfl,rfl,rfl⟩)
theorem kS (hA:nN M A E s κ key P) {k:Keyed} {arr:Array Keyed} {base n hint:Nat} {Q:Option Nat->SortSt->Prop} (hk:kindOf st=κ) (hPk:P k) (hz:base+n<=arr.size)
  (hP:∀x∈arr.toList,P x) (hs:eZ key arr base (base+n)) (hh:hint<n)
  (h:∀r,r<=n->(∀i x,base<=i->i<base+r->arr[i]?=some x->Le key x k)->(∀i x,base+r<=i->i<base+n->arr[i]?=some x->ll (key k) (key x)=true)->Q (some r) st) :
  wpS M A E s (tq false k arr base n hint) Q st:=by
 have get:∀i,i<n->arr[base+i]?=some (arr[base+i]?.getD k):=fun i hi=>by
  obtain ⟨x,ex,_⟩:=c9 (arr:=arr) (i:=base+i) 0x1;rw [ex]; rfl
 refine rB hA hk (fun i hi=>?_) hPk hh (fun i=>J7 key false k (arr[base+i]?.getD k)) (fun i x hi ex=>by rw [ex]; rfl) (fun i j Ov hj hb=>?_) fun r hr h1 h2=>h r hr (fun i x q1 q2 ex=>?_) (fun i x q1 q2 ex=>?_)
 ·obtain ⟨x,ex,mx⟩:=c9 (arr:=arr) (i:=base+i) 0x1;exact ⟨x,ex,hP x mx⟩
 ·have hle:=hs (base+i) (base+j) _ _ 0x1 0x1 0x1 (get i 0x1) (get j hj);show (!ll (key k) (key (arr[base+i]?.getD k)))=true;have My:(!ll (key k) (key (arr[base+j]?.getD k)))=true:=hb;have q:ll (key k) (key (arr[base+j]?.getD k))=false:=by simpa using My
  have:ll (key k) (key (arr[base+i]?.getD k))=false:=Le.trans hle q;rw [this]; rfl
 ·have:=h1 (i-base) 0x1;rw [show base+(i-base)=i by lia,ex] at this;have t:(!ll (key k) (key x))=true:=this;exact (by simpa using t:ll (key k) (key x)=false)
 ·have:=h2 (i-base) 0x1 0x1;rw [show base+(i-base)=i by lia,ex] at this;have t:(!ll (key k) (key x))=false:=this;simpa using t
theorem gx (hA:nN M A E s κ key P) {k:Keyed} {arr:Array Keyed} {base n hint:Nat} {Q:Option Nat->SortSt->Prop} (hk:kindOf st=κ) (hPk:P k) (hz:base+n<=arr.size)
  (hP:∀x∈arr.toList,P x) (hs:eZ key arr base (base+n)) (hh:hint<n)
  (h:∀r,r<=n->(∀i x,base<=i->i<base+r->arr[i]?=some x->ll (key x) (key k)=true)->(∀i x,base+r<=i->i<base+n->arr[i]?=some x->Le key k x)->Q (some r) st) :
  wpS M A E s (tq true k arr base n hint) Q st:=by
 have get:∀i,i<n->arr[base+i]?=some (arr[base+i]?.getD k):=fun i hi=>by
  obtain ⟨x,ex,_⟩:=c9 (arr:=arr) (i:=base+i) 0x1;rw [ex]; rfl
 refine rB hA hk (fun i hi=>?_) hPk hh (fun i=>J7 key true k (arr[base+i]?.getD k)) (fun i x hi ex=>by rw [ex]; rfl) (fun i j Ov hj hb=>?_) fun r hr h1 h2=>h r hr (fun i x q1 q2 ex=>?_) (fun i x q1 q2 ex=>?_)
 ·obtain ⟨x,ex,mx⟩:=c9 (arr:=arr) (i:=base+i) 0x1;exact ⟨x,ex,hP x mx⟩
 ·have hle:=hs (base+i) (base+j) _ _ 0x1 0x1 0x1 (get i 0x1) (get j hj);have My:ll (key (arr[base+j]?.getD k)) (key k)=true:=hb;show ll (key (arr[base+i]?.getD k)) (key k)=true;cases c:ll (key (arr[base+i]?.getD k)) (key k) with
  |true=>rfl
  |false=>
   have:ll (key (arr[base+j]?.getD k)) (key k)=false:=Le.trans c hle;rw [this] at My; cases My
 ·have:=h1 (i-base) 0x1;rw [show base+(i-base)=i by lia,ex] at this;exact this
 ·have:=h2 (i-base) 0x1 0x1;rw [show base+(i-base)=i by lia,ex] at this;exact this
end
noncomputable def B9:Array Keyed->Array Keyed->StateT SortSt Sem (Array Keyed):=sortPriv% PySem.Builtin.mergeLo
section
variable {M:Model} {A:Around} {E:Value->Shared->Prop} {s:Shared} {κ:SortKind} {key:Keyed->List Int} {P:Keyed->Prop}
structure LoA (key:Keyed->List Int) (a b:Array Keyed) (out:Array Keyed) (ia ib:Nat):Prop where
 mi:MI key a.toList b.toList out.toList (a.toList.drop ia) (b.toList.drop ib)
 ha:ia+1<a.size
 hb:ib<b.size
theorem vC (hA:nN M A E s κ key P) {a b:Array Keyed} {st:SortSt} {Q:Array Keyed->SortSt->Prop} (hk:kindOf st=κ)
  (pa:∀x∈a.toList,P x) (pb:∀x∈b.toList,P x) (za:0<a.size) (zb:0<b.size) (sa:a.toList.Pairwise (Le key)) (sb:b.toList.Pairwise (Le key))
  (first:∀y,b[0]?=some y->∀x∈a.toList,Le key y x) (last:∀z,a[a.size-1]?=some z->∀y∈b.toList,Le key y z)
  (h:∀r F',Sm st F'->n8 key a.toList b.toList r.toList->Q r F'):wpS M A E s (B9 a b) Q st:=by
 have Sa:eZ key a 0 a.size:=jx.mp sa;have Sb:eZ key b 0 b.size:=jx.mp sb;have LS:∀(out:Array Keyed) (ia ib:Nat),MI key a.toList b.toList out.toList (a.toList.drop ia) (b.toList.drop ib)->(ib=b.size\/ia=a.size)->n8 key a.toList b.toList (out++a.extract ia++b.extract ib).toList:=fun out ia ib mi hc=>by
  rw [Array.toList_append,Array.toList_append,ot,ot];refine mi.ab fun x hx y hy=>?_;rcases hc with hc|hc
  ·rw [hc,List.drop_of_length_le 0x4] at hy; cases hy
  ·rw [hc,List.drop_of_length_le 0x4] at hx; cases hx
 have Mt:∀(out:Array Keyed) (ia ib:Nat),MI key a.toList b.toList out.toList (a.toList.drop ia) (b.toList.drop ib)->ia+1=a.size->n8 key a.toList b.toList (out++b.extract ib++a.extract ia).toList:=fun out ia ib mi hc=>by
  rw [Array.toList_append,Array.toList_append,ot,ot];refine mi.ba fun x hx y hy=>?_;obtain ⟨j,j1,j2,ej⟩:=iy hy;have:j=a.size-1:=by lia
  subst this;exact last y ej x (List.mem_of_mem_drop hx)
 have Mm:∀(out:Array Keyed) (ia ib:Nat) (x:Keyed),MI key a.toList b.toList out.toList (a.toList.drop ia) (b.toList.drop ib)->b[ib]?=some x->(∀z,a[ia]?=some z->Le key x z)->MI key a.toList b.toList (out.push x).toList (a.toList.drop ia) (b.toList.drop (ib+1)):=fun out ia ib x mi ex hx=>by
  rw [xk ex] at mi;rw [Array.toList_push];refine MI.b (c:=[x]) (by simpa using mi) fun u hu y hy=>?_;rw [Lm.mp hu];obtain ⟨j,j1,j2,ej⟩:=iy hy;obtain ⟨z,ez,_⟩:=c9 (arr:=a) (i:=ia) 0x1;exact (hx z ez).trans (Sa ia j z y (Lv _) j1 j2 ez ej)
 have L5:∀(out:Array Keyed) (ia ib:Nat) (x:Keyed),MI key a.toList b.toList out.toList (a.toList.drop ia) (b.toList.drop ib)->a[ia]?=some x->(∀z,b[ib]?=some z->Le key x z)->MI key a.toList b.toList (out.push x).toList (a.toList.drop (ia+1)) (b.toList.drop ib):=fun out ia ib x mi ex hx=>by
  rw [xk ex] at mi;rw [Array.toList_push];refine MI.a (c:=[x]) (by simpa using mi) fun u hu y hy=>?_;rw [Lm.mp hu];obtain ⟨j,j1,j2,ej⟩:=iy hy;obtain ⟨z,ez,_⟩:=c9 (arr:=b) (i:=ib) 0x1;exact (hx z ez).trans (Sb ib j z y (Lv _) j1 j2 ez ej)
 refine wpS_bind (wpS_lift (wpAny_rule ⟨rfl,?_⟩));obtain ⟨y0,ey0,my0⟩:=c9 (arr:=b) (i:=0) zb;refine wpS_bind (aW ey0 ?_);dsimp only;have OX:MI key a.toList b.toList (#[y0]:Array Keyed).toList (a.toList.drop 0) (b.toList.drop 1):=by
  have:MI key a.toList b.toList (#[]:Array Keyed).toList (a.toList.drop 0) (b.toList.drop 0):=⟨0x4,List.Pairwise.nil,by simpa using sa,by simpa using sb,fun _ hx=>(by simp at hx),fun _ hx=>(by simp at hx)⟩;exact Mm #[] 0 0 y0 this ey0 fun z ez=>first y0 ey0 z (by
   obtain ⟨hz,rfl⟩:=Lu.mp ez;simp)
 by_cases c1:(1==b.size)=true
 ·rw [if_pos c1];exact wpS_pure (h _ _ (Sm.refl _) (LS _ _ _ OX (.inl (by simpa using c1))))
 rw [if_neg c1];have c1':1≠b.size:=by simpa using c1
 by_cases c2:(0+1==a.size)=true
 ·rw [if_pos c2];exact wpS_pure (h _ _ (Sm.refl _) (Mt _ _ _ OX (by simpa using c2)))
 rw [if_neg c2];have c2':0+1≠a.size:=by simpa using c2
 refine wpS_bind (wpS_get ?_);refine wpS_bind (wpS_mono (wpS_forRange
  (I:=fun x c F'=>Sm st F'/\∃out ia ib g,c=(none,out,ia,ib,g)/\LoA key a b out ia ib/\x+1<=ia+ib)
  (Q:=fun c F'=>Sm st F'/\∃r cy,c=(some r,cy)/\n8 key a.toList b.toList r.toList) ?step ?fin ⟨Sm.refl _,_,_,_,_,rfl,⟨OX,0x1,0x1⟩,0x1⟩) ?post)
 case post=>
  rintro c F' ⟨hS,r,cy,rfl,hr⟩;exact wpS_pure (h r F' hS hr)
 case fin=>
  rintro c F' ⟨hS,out,ia,ib,g,rfl,hL,hx⟩;have:=hL.ha;have:=hL.hb;exact absurd hx 0x1
 case step=>
  rintro x c LI _ hx ⟨OJ,out,ia,ib,g,rfl,hL,hxx⟩;dsimp only;refine wpS_bind (wpS_mono (wpS_forRange
   (I:=fun y c F'=>F'=LI/\∃out L0 LO ac bc,c=(none,out,L0,LO,ac,bc)/\LoA key a b out L0 LO/\ia+ib+y<=L0+LO)
   (Q:=fun c F'=>F'=LI/\((∃r cy,c=(some r,cy)/\n8 key a.toList b.toList r.toList)\/∃out L0 LO ac bc,c=(none,out,L0,LO,ac,bc)/\LoA key a b out L0 LO/\ia+ib+1<=L0+LO))
   ?istep ?ifin ⟨rfl,_,_,_,_,_,rfl,hL,K9 _⟩) ?ipost)
  case ifin=>
   rintro c F' ⟨rfl,out,L0,LO,ac,bc,rfl,Mc,hy⟩;exact ⟨rfl,.inr ⟨_,_,_,_,_,rfl,Mc,0x1⟩⟩
  case istep=>
   rintro y c F' _ hy ⟨rfl,out,L0,LO,ac,bc,rfl,Mc,hyy⟩;dsimp only;obtain ⟨Nm,My⟩:=And.intro Mc.ha Mc.hb;obtain ⟨xb,Ms,OG⟩:=c9 (arr:=b) (i:=LO) My;obtain ⟨xa,Oc,mxa⟩:=c9 (arr:=a) (i:=L0) 0x1;refine wpS_bind (aW Ms (wpS_bind (aW Oc (wpS_bind (hA xb xa _ _ (OJ.kind.trans hk) (pb _ OG) (pa _ mxa) ?_)))));dsimp only;cases c3:ll (key xb) (key xa) with
   |true=>
    rw [if_pos rfl];refine wpS_bind (aW Ms ?_);have NW:=Mm out L0 LO xb Mc.mi Ms (fun z ez=>by rw [Oc] at ez; cases ez; exact Le.of_lt c3);by_cases c4:(LO+1==b.size)=true
    ·rw [if_pos c4];exact wpS_pure ⟨rfl,.inl ⟨_,_,rfl,LS _ _ _ NW (.inl (by simpa using c4))⟩⟩
    ·rw [if_neg c4];have c4':LO+1≠b.size:=by simpa using c4
     have Nc:LoA key a b (out.push xb) L0 (LO+1):=⟨NW,Nm,0x1⟩;by_cases c5:bc+1>=g
     ·rw [if_pos c5]; exact wpS_pure ⟨rfl,.inr ⟨_,_,_,_,_,rfl,Nc,0x1⟩⟩
     ·rw [if_neg c5]; exact wpS_pure ⟨rfl,_,_,_,_,_,rfl,Nc,0x1⟩
   |false=>
    rw [if_neg 0x4];refine wpS_bind (aW Oc ?_);have NW:=L5 out L0 LO xa Mc.mi Oc (fun z ez=>by rw [Ms] at ez; cases ez; exact c3);by_cases c4:(L0+1+1==a.size)=true
    ·rw [if_pos c4];exact wpS_pure ⟨rfl,.inl ⟨_,_,rfl,Mt _ _ _ NW (by simpa using c4)⟩⟩
    ·rw [if_neg c4];have c4':L0+1+1≠a.size:=by simpa using c4
     have Nc:LoA key a b (out.push xa) (L0+1) LO:=⟨NW,0x1,My⟩;by_cases c5:ac+1>=g
     ·rw [if_pos c5]; exact wpS_pure ⟨rfl,.inr ⟨_,_,_,_,_,rfl,Nc,0x1⟩⟩
     ·rw [if_neg c5]; exact wpS_pure ⟨rfl,_,_,_,_,_,rfl,Nc,0x1⟩
  case ipost=>
   rintro c F' ⟨rfl,hc⟩;rcases hc with ⟨r,cy,rfl,hr⟩|⟨out,Ox,Og,ac,bc,rfl,Nc,hy2⟩
   ·dsimp only;exact wpS_pure ⟨OJ,r,_,rfl,hr⟩
   dsimp only;refine wpS_bind (wpS_lift (wpAny_rule ⟨rfl,?_⟩));refine wpS_bind (wpS_mono (wpS_forRange
    (I:=fun y c F'=>Sm st F'/\∃out L0 LO g ac bc,c=(none,out,L0,LO,g,ac,bc)/\LoA key a b out L0 LO/\Ox+Og<=L0+LO)
    (Q:=fun c F'=>Sm st F'/\((∃r cy,c=(some r,cy)/\n8 key a.toList b.toList r.toList)\/∃out L0 LO g ac bc,c=(none,out,L0,LO,g,ac,bc)/\LoA key a b out L0 LO/\Ox+Og<=L0+LO))
    ?gstep ?gfin ⟨OJ,_,_,_,_,_,_,rfl,Nc,K9 _⟩) ?gpost)
   case gfin=>
    rintro c F' ⟨hS,out,L0,LO,g,ac,bc,rfl,Mc,hy⟩;exact ⟨hS,.inr ⟨_,_,_,_,_,_,rfl,Mc,hy⟩⟩
   case gpost=>
    rintro c F' ⟨hS,hc⟩;rcases hc with ⟨r,cy,rfl,hr⟩|⟨out,ia3,ib3,g,ac,bc,rfl,hL3,OU⟩
    ·dsimp only;exact wpS_pure ⟨hS,r,_,rfl,hr⟩
    dsimp only;refine wpS_bind (wpS_modify (wpS_pure ⟨hS.trans ⟨rfl,rfl,rfl,rfl⟩,_,_,_,_,rfl,hL3,0x1⟩))
   case gstep=>
    rintro y c LP _ hy ⟨hS2,out,L0,LO,g,ac,bc,rfl,Mc,hyy⟩;dsimp only;have Nm:=Mc.ha;have My:=Mc.hb;obtain ⟨xb,Ms,OG⟩:=c9 (arr:=b) (i:=LO) My;by_cases hg:g>1
    case' pos=>rw [if_pos hg]
    case' neg=>rw [if_neg hg]
    all_goals
     refine wpS_bind (tf fun Mf NH=>?_);have LZ:=hS2.trans NH;refine wpS_bind (aW Ms ?_);refine wpS_bind (kS hA (LZ.kind.trans hk) (pb _ OG) 0x1 pa (fun i j x y q1 q2 q3=>Sa i j x y (Lv _) q2 0x1) 0x1 fun k w1 w2 w3=>?_);dsimp only;by_cases hk0:k>0
     ·rw [if_pos hk0];have N3:MI key a.toList b.toList (out++a.extract L0 (L0+k)).toList (a.toList.drop (L0+k)) (b.toList.drop LO):=by
       rw [Array.toList_append];refine MI.a (by rw [<-oJ]; exact Mc.mi) fun x hx y hy=>?_;obtain ⟨i,i1,i2,i3,ei⟩:=d7 hx;obtain ⟨j,j1,j2,ej⟩:=iy hy;exact (w2 i x i1 i2 ei).trans (Sb LO j xb y (Lv _) j1 j2 Ms ej)
      by_cases e1:(L0+k+1==a.size)=true
      ·rw [if_pos e1];exact wpS_pure ⟨LZ,.inl ⟨_,_,rfl,Mt _ _ _ N3 (by simpa using e1)⟩⟩
      rw [if_neg e1];have e1':L0+k+1≠a.size:=by simpa using e1
      by_cases e2:(L0+k==a.size)=true
      ·rw [if_pos e2];exact wpS_pure ⟨LZ,.inl ⟨_,_,rfl,LS _ _ _ N3 (.inr (by simpa using e2))⟩⟩
      rw [if_neg e2];have e2':L0+k≠a.size:=by simpa using e2
      have lt1:L0+k+1<a.size:=by lia
      have low:∀z,a[L0+k]?=some z->Le key xb z:=fun z ez=>Le.of_lt (w3 _ z (K9 _) 0x1 ez);have mR:Ox+Og<=L0+k+LO:=by lia
      clear w2 w3 e1 e2;generalize out++a.extract L0 (L0+k)=out1 at *;generalize L0+k=ia1 at *;obtain ⟨Md,LR,M9⟩:=c9 (arr:=a) (i:=ia1) 0x1;refine wpS_bind (aW Ms ?_);have L4:=Mm out1 ia1 LO xb N3 Ms low;by_cases e3:(LO+1==b.size)=true
      ·rw [if_pos e3];exact wpS_pure ⟨LZ,.inl ⟨_,_,rfl,LS _ _ _ L4 (.inl (by simpa using e3))⟩⟩
      rw [if_neg e3];have e3':LO+1≠b.size:=by simpa using e3
      refine wpS_bind (aW LR ?_);refine wpS_bind (gx hA (LZ.kind.trans hk) (pa _ M9) 0x1 pb (fun i j x y q1 q2 q3=>Sb i j x y (Lv _) q2 0x1) 0x1 fun k2 u1 u2 u3=>?_);dsimp only;by_cases Nn:k2>0
      ·rw [if_pos Nn];have MF:MI key a.toList b.toList (out1.push xb++b.extract (LO+1) (LO+1+k2)).toList (a.toList.drop ia1) (b.toList.drop (LO+1+k2)):=by
        rw [Array.toList_append];refine MI.b (by rw [<-oJ]; exact L4) fun x hx y hy=>?_;obtain ⟨i,i1,i2,i3,ei⟩:=d7 hx;obtain ⟨j,j1,j2,ej⟩:=iy hy;exact (Le.of_lt (u2 i x i1 i2 ei)).trans (Sa ia1 j Md y (Lv _) j1 j2 LR ej)
       by_cases e4:(LO+1+k2==b.size)=true
       ·rw [if_pos e4];exact wpS_pure ⟨LZ,.inl ⟨_,_,rfl,LS _ _ _ MF (.inl (by simpa using e4))⟩⟩
       rw [if_neg e4];have e4':LO+1+k2≠b.size:=by simpa using e4
       have Nd:∀z,b[LO+1+k2]?=some z->Le key Md z:=fun z ez=>u3 _ z (K9 _) 0x1 ez;have M':Ox+Og<=ia1+1+(LO+1+k2):=by lia
       have OC:LO+1+k2<b.size:=by lia
       clear u2 u3 e4;generalize out1.push xb++b.extract (LO+1) (LO+1+k2)=out2 at *;generalize LO+1+k2=ibz at *;refine wpS_bind (aW LR ?_);have Mw:=L5 out2 ia1 ibz Md MF LR Nd;by_cases d1:(ia1+1+1==a.size)=true
       ·rw [if_pos d1];exact wpS_pure ⟨LZ,.inl ⟨_,_,rfl,Mt _ _ _ Mw (by simpa using d1)⟩⟩
       rw [if_neg d1];have O0:ia1+1+1≠a.size:=by simpa using d1
       have MA:LoA key a b (out2.push Md) (ia1+1) ibz:=⟨Mw,0x1,0x1⟩;split
       ·exact wpS_pure ⟨LZ,.inr ⟨_,_,_,_,_,_,rfl,MA,0x1⟩⟩
       ·exact wpS_pure ⟨LZ,_,_,_,_,_,_,rfl,MA,0x1⟩
      ·rw [if_neg Nn];have MF:=L4;have hk2':k2=0:=by lia
       have Nd:∀z,b[LO+1]?=some z->Le key Md z:=fun z ez=>u3 _ z 0x1 0x1 ez;have M':Ox+Og<=ia1+1+(LO+1):=by lia
       have OC:LO+1<b.size:=by lia
       clear u2 u3 L4;generalize out1.push xb=out2 at *;generalize LO+1=ibz at *;refine wpS_bind (aW LR ?_);have Mw:=L5 out2 ia1 ibz Md MF LR Nd;by_cases d1:(ia1+1+1==a.size)=true
       ·rw [if_pos d1];exact wpS_pure ⟨LZ,.inl ⟨_,_,rfl,Mt _ _ _ Mw (by simpa using d1)⟩⟩
       rw [if_neg d1];have O0:ia1+1+1≠a.size:=by simpa using d1
       have MA:LoA key a b (out2.push Md) (ia1+1) ibz:=⟨Mw,0x1,0x1⟩;split
       ·exact wpS_pure ⟨LZ,.inr ⟨_,_,_,_,_,_,rfl,MA,0x1⟩⟩
       ·exact wpS_pure ⟨LZ,_,_,_,_,_,_,rfl,MA,0x1⟩
     ·rw [if_neg hk0];have N3:=Mc.mi;have hk0':k=0:=by lia
      have low:∀z,a[L0]?=some z->Le key xb z:=fun z ez=>Le.of_lt (w3 _ z 0x1 0x1 ez);have lt1:L0+1<a.size:=Nm;have mR:Ox+Og<=L0+LO:=hyy;clear w2 w3;generalize out=out1 at *;generalize L0=ia1 at *;obtain ⟨Md,LR,M9⟩:=c9 (arr:=a) (i:=ia1) 0x1;refine wpS_bind (aW Ms ?_);have L4:=Mm out1 ia1 LO xb N3 Ms low;by_cases e3:(LO+1==b.size)=true
      ·rw [if_pos e3];exact wpS_pure ⟨LZ,.inl ⟨_,_,rfl,LS _ _ _ L4 (.inl (by simpa using e3))⟩⟩
      rw [if_neg e3];have e3':LO+1≠b.size:=by simpa using e3
      refine wpS_bind (aW LR ?_);refine wpS_bind (gx hA (LZ.kind.trans hk) (pa _ M9) 0x1 pb (fun i j x y q1 q2 q3=>Sb i j x y (Lv _) q2 0x1) 0x1 fun k2 u1 u2 u3=>?_);dsimp only;by_cases Nn:k2>0
      ·rw [if_pos Nn];have MF:MI key a.toList b.toList (out1.push xb++b.extract (LO+1) (LO+1+k2)).toList (a.toList.drop ia1) (b.toList.drop (LO+1+k2)):=by
        rw [Array.toList_append];refine MI.b (by rw [<-oJ]; exact L4) fun x hx y hy=>?_;obtain ⟨i,i1,i2,i3,ei⟩:=d7 hx;obtain ⟨j,j1,j2,ej⟩:=iy hy;exact (Le.of_lt (u2 i x i1 i2 ei)).trans (Sa ia1 j Md y (Lv _) j1 j2 LR ej)
       by_cases e4:(LO+1+k2==b.size)=true
       ·rw [if_pos e4];exact wpS_pure ⟨LZ,.inl ⟨_,_,rfl,LS _ _ _ MF (.inl (by simpa using e4))⟩⟩
       rw [if_neg e4];have e4':LO+1+k2≠b.size:=by simpa using e4
       have Nd:∀z,b[LO+1+k2]?=some z->Le key Md z:=fun z ez=>u3 _ z (K9 _) 0x1 ez;have M':Ox+Og<=ia1+1+(LO+1+k2):=by lia
       have OC:LO+1+k2<b.size:=by lia
       clear u2 u3 e4;generalize out1.push xb++b.extract (LO+1) (LO+1+k2)=out2 at *;generalize LO+1+k2=ibz at *;refine wpS_bind (aW LR ?_);have Mw:=L5 out2 ia1 ibz Md MF LR Nd;by_cases d1:(ia1+1+1==a.size)=true
       ·rw [if_pos d1];exact wpS_pure ⟨LZ,.inl ⟨_,_,rfl,Mt _ _ _ Mw (by simpa using d1)⟩⟩
       rw [if_neg d1];have O0:ia1+1+1≠a.size:=by simpa using d1
       have MA:LoA key a b (out2.push Md) (ia1+1) ibz:=⟨Mw,0x1,0x1⟩;split
       ·exact wpS_pure ⟨LZ,.inr ⟨_,_,_,_,_,_,rfl,MA,0x1⟩⟩
       ·exact wpS_pure ⟨LZ,_,_,_,_,_,_,rfl,MA,0x1⟩
      ·rw [if_neg Nn];have MF:=L4;have hk2':k2=0:=by lia
       have Nd:∀z,b[LO+1]?=some z->Le key Md z:=fun z ez=>u3 _ z 0x1 0x1 ez;have M':Ox+Og<=ia1+1+(LO+1):=by lia
       have OC:LO+1<b.size:=by lia
       clear u2 u3 L4;generalize out1.push xb=out2 at *;generalize LO+1=ibz at *;refine wpS_bind (aW LR ?_);have Mw:=L5 out2 ia1 ibz Md MF LR Nd;by_cases d1:(ia1+1+1==a.size)=true
       ·rw [if_pos d1];exact wpS_pure ⟨LZ,.inl ⟨_,_,rfl,Mt _ _ _ Mw (by simpa using d1)⟩⟩
       rw [if_neg d1];have O0:ia1+1+1≠a.size:=by simpa using d1
       have MA:LoA key a b (out2.push Md) (ia1+1) ibz:=⟨Mw,0x1,0x1⟩;split
       ·exact wpS_pure ⟨LZ,.inr ⟨_,_,_,_,_,_,rfl,MA,0x1⟩⟩
       ·exact wpS_pure ⟨LZ,_,_,_,_,_,_,rfl,MA,0x1⟩
end
noncomputable def Bk:Array Keyed->Array Keyed->StateT SortSt Sem (Array Keyed):=sortPriv% PySem.Builtin.mergeHi
section
variable {key:Keyed->List Int}
structure MH (key:Keyed->List Int) (la lb o ra rb:List Keyed):Prop where
 perm:(ra++rb++o).Perm (la++lb)
 so:o.Pairwise (Le key)
 sa:ra.Pairwise (Le key)
 sb:rb.Pairwise (Le key)
 ao:∀x∈ra,∀y∈o,Le key x y
 bo:∀x∈rb,∀y∈o,Le key x y
variable {la lb o ra rb:List Keyed}
theorem MH.b {c:List Keyed} (h:MH key la lb o ra (rb++c)) (hc:∀x∈c,∀y∈ra,Le key y x):MH key la lb (c++o) ra rb:=by
 obtain ⟨p,so,sa,sb,ao,bo⟩:=h;obtain ⟨s1,s2,s3⟩:=Ls.mp sb;refine ⟨by simpa using p,Ls.mpr ⟨s2,so,fun x hx y hy=>bo x (K7 _ hx) y hy⟩,sa,s1,fun x hx y hy=>?_,fun x hx y hy=>?_⟩
 ·rcases Lk.mp hy with q|q
  ·exact hc y q x hx
  ·exact ao x hx y q
 ·rcases Lk.mp hy with q|q
  ·exact s3 x hx y q
  ·exact bo x (K8 _ hx) y q
theorem MH.a {c:List Keyed} (h:MH key la lb o (ra++c) rb) (hc:∀x∈c,∀y∈rb,Le key y x):MH key la lb (c++o) ra rb:=by
 obtain ⟨p,so,sa,sb,ao,bo⟩:=h;obtain ⟨s1,s2,s3⟩:=Ls.mp sa;refine ⟨?_,Ls.mpr ⟨s2,so,fun x hx y hy=>ao x (K7 _ hx) y hy⟩,s1,sb,fun x hx y hy=>?_,fun x hx y hy=>?_⟩
 ·refine List.Perm.trans ?_ p;have:(rb++c).Perm (c++rb):=List.perm_append_comm;have e1:ra++rb++(c++o)=ra++((rb++c)++o):=by simp
  have e2:ra++c++rb++o=ra++((c++rb)++o):=by simp
  rw [e1,e2];exact (this.append_right o).append_left ra
 ·rcases Lk.mp hy with q|q
  ·exact s3 x hx y q
  ·exact ao x (K8 _ hx) y q
 ·rcases Lk.mp hy with q|q
  ·exact hc y q x hx
  ·exact bo x hx y q
theorem MH.ab (h:MH key la lb o ra rb) (hc:∀x∈ra,∀y∈rb,Le key x y):n8 key la lb (ra++rb++o):=by
 have h1:MH key la lb (rb++o) ra []:=MH.b (by simpa using h) (fun x hx y hy=>hc y hy x hx);have h2:MH key la lb (ra++(rb++o)) [] []:=MH.a (by simpa using h1) (fun _ _ _ hy=>nomatch hy);exact ⟨by simpa using h2.perm,by simpa using h2.so⟩
theorem MH.ba (h:MH key la lb o ra rb) (hc:∀x∈rb,∀y∈ra,Le key x y):n8 key la lb (rb++ra++o):=by
 have h1:MH key la lb (ra++o) [] rb:=MH.a (by simpa using h) (fun x hx y hy=>hc y hy x hx);have h2:MH key la lb (rb++(ra++o)) [] []:=MH.b (by simpa using h1) (fun _ _ _ hy=>nomatch hy);exact ⟨by simpa using h2.perm,by simpa using h2.so⟩
end
section
variable {M:Model} {A:Around} {E:Value->Shared->Prop} {s:Shared} {κ:SortKind} {key:Keyed->List Int} {P:Keyed->Prop}
structure HiA (key:Keyed->List Int) (a b:Array Keyed) (out:Array Keyed) (na nb:Nat):Prop where
 mi:MH key a.toList b.toList out.reverse.toList (a.toList.take na) (b.toList.take nb)
 ha:0<na
 ha2:na<=a.size
 hb:1<nb
 hb2:nb<=b.size
theorem v7 (hA:nN M A E s κ key P) {a b:Array Keyed} {st:SortSt} {Q:Array Keyed->SortSt->Prop} (hk:kindOf st=κ)
  (pa:∀x∈a.toList,P x) (pb:∀x∈b.toList,P x) (za:0<a.size) (zb:0<b.size) (sa:a.toList.Pairwise (Le key)) (sb:b.toList.Pairwise (Le key))
  (first:∀y,b[0]?=some y->∀x∈a.toList,Le key y x) (last:∀z,a[a.size-1]?=some z->∀y∈b.toList,Le key y z)
  (h:∀r F',Sm st F'->n8 key a.toList b.toList r.toList->Q r F'):wpS M A E s (Bk a b) Q st:=by
 have Sa:eZ key a 0 a.size:=jx.mp sa;have Sb:eZ key b 0 b.size:=jx.mp sb;have LS:∀(out:Array Keyed) (na nb:Nat),MH key a.toList b.toList out.reverse.toList (a.toList.take na) (b.toList.take nb)->(na=0\/nb=0)->n8 key a.toList b.toList (a.extract 0 na++b.extract 0 nb++out.reverse).toList:=fun out na nb mi hc=>by
  rw [Array.toList_append,Array.toList_append,jY,jY];refine mi.ab fun x hx y hy=>?_;rcases hc with hc|hc
  ·rw [hc] at hx; cases hx
  ·rw [hc] at hy; cases hy
 have Mh:∀(out:Array Keyed) (na nb:Nat),MH key a.toList b.toList out.reverse.toList (a.toList.take na) (b.toList.take nb)->nb=1->n8 key a.toList b.toList (b.extract 0 nb++a.extract 0 na++out.reverse).toList:=fun out na nb mi hc=>by
  rw [Array.toList_append,Array.toList_append,jY,jY];refine mi.ba fun x hx y hy=>?_;obtain ⟨j,j1,j2,ej⟩:=ie hx;have:j=0:=by lia
  subst this;exact first x ej y (List.mem_of_mem_take hy)
 have Mm:∀(out:Array Keyed) (na nb:Nat) (x:Keyed),MH key a.toList b.toList out.reverse.toList (a.toList.take na) (b.toList.take nb)->0<nb->na<=a.size->b[nb-1]?=some x->(∀z,0<na->a[na-1]?=some z->Le key z x)->MH key a.toList b.toList (out.push x).reverse.toList (a.toList.take na) (b.toList.take (nb-1)):=fun out na nb x mi h0 hz ex hx=>by
  have e:=ye ex;rw [show nb-1+1=nb by lia] at e;rw [e] at mi;have er:(out.push x).reverse.toList=[x]++out.reverse.toList:=by simp
  rw [er];refine MH.b mi fun u hu y hy=>?_;rw [Lm.mp hu];obtain ⟨j,j1,j2,ej⟩:=ie hy;obtain ⟨z,ez,_⟩:=c9 (arr:=a) (i:=na-1) 0x1;exact (Sa j (na-1) y z (Lv _) 0x1 0x1 ej ez).trans (hx z 0x1 ez)
 have L5:∀(out:Array Keyed) (na nb:Nat) (x:Keyed),MH key a.toList b.toList out.reverse.toList (a.toList.take na) (b.toList.take nb)->0<na->nb<=b.size->a[na-1]?=some x->(∀z,0<nb->b[nb-1]?=some z->Le key z x)->MH key a.toList b.toList (out.push x).reverse.toList (a.toList.take (na-1)) (b.toList.take nb):=fun out na nb x mi h0 hz ex hx=>by
  have e:=ye ex;rw [show na-1+1=na by lia] at e;rw [e] at mi;have er:(out.push x).reverse.toList=[x]++out.reverse.toList:=by simp
  rw [er];refine MH.a mi fun u hu y hy=>?_;rw [Lm.mp hu];obtain ⟨j,j1,j2,ej⟩:=ie hy;obtain ⟨z,ez,_⟩:=c9 (arr:=b) (i:=nb-1) 0x1;exact (Sb j (nb-1) y z (Lv _) 0x1 0x1 ej ez).trans (hx z 0x1 ez)
 refine wpS_bind (wpS_lift (wpAny_rule ⟨rfl,?_⟩));obtain ⟨z0,ez0,mz0⟩:=c9 (arr:=a) (i:=a.size-1) 0x1;refine wpS_bind (aW ez0 ?_);dsimp only;have OX:MH key a.toList b.toList (#[z0]:Array Keyed).reverse.toList (a.toList.take (a.size-1)) (b.toList.take b.size):=by
  have:MH key a.toList b.toList (#[]:Array Keyed).reverse.toList (a.toList.take a.size) (b.toList.take b.size):=by
   rw [List.take_of_length_le 0x4,List.take_of_length_le 0x4];exact ⟨0x4,0x4,sa,sb,fun _ _ _ hx=>(by simp at hx),fun _ _ _ hx=>(by simp at hx)⟩
  exact L5 #[] a.size b.size z0 this za (K9 _) ez0 fun z _ ez=>last z0 ez0 z (by
   obtain ⟨hz,rfl⟩:=Lu.mp ez;simp)
 by_cases c1:(a.size-1==0)=true
 ·rw [if_pos c1];exact wpS_pure (h _ _ (Sm.refl _) (LS _ _ _ OX (.inl (by simpa using c1))))
 rw [if_neg c1];have c1':a.size-1≠0:=by simpa using c1
 by_cases c2:(b.size==1)=true
 ·rw [if_pos c2];exact wpS_pure (h _ _ (Sm.refl _) (Mh _ _ _ OX (by simpa using c2)))
 rw [if_neg c2];have c2':b.size≠1:=by simpa using c2
 refine wpS_bind (wpS_get ?_);refine wpS_bind (wpS_mono (wpS_forRange
  (I:=fun x c F'=>Sm st F'/\∃na nb out g,c=(none,na,nb,out,g)/\HiA key a b out na nb/\x+1+(na+nb)<=a.size+b.size)
  (Q:=fun c F'=>Sm st F'/\∃r cy,c=(some r,cy)/\n8 key a.toList b.toList r.toList) ?step ?fin ⟨Sm.refl _,_,_,_,_,rfl,⟨OX,0x1,0x1,0x1,0x1⟩,0x1⟩) ?post)
 case post=>
  rintro c F' ⟨hS,r,cy,rfl,hr⟩;exact wpS_pure (h r F' hS hr)
 case fin=>
  rintro c F' ⟨hS,na,nb,out,g,rfl,hL,hx⟩;have:=hL.ha;have:=hL.hb;exact absurd hx 0x1
 case step=>
  rintro x c LI _ hx ⟨OJ,na,nb,out,g,rfl,hL,hxx⟩;dsimp only;refine wpS_bind (wpS_mono (wpS_forRange
   (I:=fun y c F'=>F'=LI/\∃L8 LQ out ac bc,c=(none,L8,LQ,out,ac,bc)/\HiA key a b out L8 LQ/\y+(L8+LQ)<=na+nb)
   (Q:=fun c F'=>F'=LI/\((∃r cy,c=(some r,cy)/\n8 key a.toList b.toList r.toList)\/∃L8 LQ out ac bc,c=(none,L8,LQ,out,ac,bc)/\HiA key a b out L8 LQ/\1+(L8+LQ)<=na+nb))
   ?istep ?ifin ⟨rfl,_,_,_,_,_,rfl,hL,0x1⟩) ?ipost)
  case ifin=>
   rintro c F' ⟨rfl,L8,LQ,out,ac,bc,rfl,Mc,hy⟩;exact ⟨rfl,.inr ⟨_,_,_,_,_,rfl,Mc,0x1⟩⟩
  case istep=>
   rintro y c F' _ hy ⟨rfl,L8,LQ,out,ac,bc,rfl,Mc,hyy⟩;dsimp only;have q1:=Mc.ha;have q2:=Mc.ha2;have q3:=Mc.hb;have q4:=Mc.hb2;obtain ⟨xb,Ms,OG⟩:=c9 (arr:=b) (i:=LQ-1) 0x1;obtain ⟨xa,Oc,mxa⟩:=c9 (arr:=a) (i:=L8-1) 0x1;refine wpS_bind (aW Ms (wpS_bind (aW Oc (wpS_bind (hA xb xa _ _ (OJ.kind.trans hk) (pb _ OG) (pa _ mxa) ?_)))));dsimp only;cases c3:ll (key xb) (key xa) with
   |true=>
    rw [if_pos rfl];refine wpS_bind (aW Oc ?_);have NW:=L5 out L8 LQ xa Mc.mi q1 q4 Oc (fun z _ ez=>by rw [Ms] at ez; cases ez; exact Le.of_lt c3);by_cases c4:(L8-1==0)=true
    ·rw [if_pos c4];exact wpS_pure ⟨rfl,.inl ⟨_,_,rfl,LS _ _ _ NW (.inl (by simpa using c4))⟩⟩
    ·rw [if_neg c4];have c4':L8-1≠0:=by simpa using c4
     have Nc:HiA key a b (out.push xa) (L8-1) LQ:=⟨NW,0x1,0x1,0x1,0x1⟩;by_cases c5:ac+1>=g
     ·rw [if_pos c5]; exact wpS_pure ⟨rfl,.inr ⟨_,_,_,_,_,rfl,Nc,0x1⟩⟩
     ·rw [if_neg c5]; exact wpS_pure ⟨rfl,_,_,_,_,_,rfl,Nc,0x1⟩
   |false=>
    rw [if_neg 0x4];refine wpS_bind (aW Ms ?_);have NW:=Mm out L8 LQ xb Mc.mi 0x1 q2 Ms (fun z _ ez=>by rw [Oc] at ez; cases ez; exact c3);by_cases c4:(LQ-1==1)=true
    ·rw [if_pos c4];exact wpS_pure ⟨rfl,.inl ⟨_,_,rfl,Mh _ _ _ NW (by simpa using c4)⟩⟩
    ·rw [if_neg c4];have c4':LQ-1≠1:=by simpa using c4
     have Nc:HiA key a b (out.push xb) L8 (LQ-1):=⟨NW,0x1,0x1,0x1,0x1⟩;by_cases c5:bc+1>=g
     ·rw [if_pos c5]; exact wpS_pure ⟨rfl,.inr ⟨_,_,_,_,_,rfl,Nc,0x1⟩⟩
     ·rw [if_neg c5]; exact wpS_pure ⟨rfl,_,_,_,_,_,rfl,Nc,0x1⟩
  case ipost=>
   rintro c F' ⟨rfl,hc⟩;rcases hc with ⟨r,cy,rfl,hr⟩|⟨Om,Oq,out,ac,bc,rfl,Nc,hy2⟩
   ·dsimp only;exact wpS_pure ⟨OJ,r,_,rfl,hr⟩
   dsimp only;refine wpS_bind (wpS_lift (wpAny_rule ⟨rfl,?_⟩));refine wpS_bind (wpS_mono (wpS_forRange
    (I:=fun y c F'=>Sm st F'/\∃L8 LQ out g ac bc,c=(none,L8,LQ,out,g,ac,bc)/\HiA key a b out L8 LQ/\L8+LQ<=Om+Oq)
    (Q:=fun c F'=>Sm st F'/\((∃r cy,c=(some r,cy)/\n8 key a.toList b.toList r.toList)\/∃L8 LQ out g ac bc,c=(none,L8,LQ,out,g,ac,bc)/\HiA key a b out L8 LQ/\L8+LQ<=Om+Oq))
    ?gstep ?gfin ⟨OJ,_,_,_,_,_,_,rfl,Nc,K9 _⟩) ?gpost)
   case gfin=>
    rintro c F' ⟨hS,L8,LQ,out,g,ac,bc,rfl,Mc,hy⟩;exact ⟨hS,.inr ⟨_,_,_,_,_,_,rfl,Mc,hy⟩⟩
   case gpost=>
    rintro c F' ⟨hS,hc⟩;rcases hc with ⟨r,cy,rfl,hr⟩|⟨na3,nb3,out,g,ac,bc,rfl,hL3,OU⟩
    ·dsimp only;exact wpS_pure ⟨hS,r,_,rfl,hr⟩
    dsimp only;refine wpS_bind (tf fun Mf NH=>wpS_pure ⟨hS.trans NH,_,_,_,_,rfl,hL3,0x1⟩)
   case gstep=>
    rintro y c LP _ hy ⟨hS2,L8,LQ,out,g,ac,bc,rfl,Mc,hyy⟩;dsimp only;have q1:=Mc.ha;have q2:=Mc.ha2;have q3:=Mc.hb;have q4:=Mc.hb2;obtain ⟨xb,Ms,OG⟩:=c9 (arr:=b) (i:=LQ-1) 0x1;by_cases hg:g>1
    case' pos=>rw [if_pos hg]
    case' neg=>rw [if_neg hg]
    all_goals
     refine wpS_bind (tf fun Mf NH=>?_);have LZ:=hS2.trans NH;refine wpS_bind (aW Ms ?_);refine wpS_bind (kS hA (LZ.kind.trans hk) (pb _ OG) 0x1 pa (fun i j x y q1 q2 q3=>Sa i j x y (Lv _) q2 0x1) 0x1 fun Nq w1 w2 w3=>?_);dsimp only;by_cases hk0:L8-Nq>0
     ·rw [if_pos hk0];have N3:MH key a.toList b.toList (out++(a.extract Nq L8).reverse).reverse.toList (a.toList.take Nq) (b.toList.take LQ):=by
       have er:(out++(a.extract Nq L8).reverse).reverse.toList=(a.extract Nq L8).toList++out.reverse.toList:=by simp
       rw [er];refine MH.a (by rw [<-jq 0x1]; exact Mc.mi) fun x hx y hy=>?_;obtain ⟨i,i1,i2,i3,ei⟩:=d7 hx;obtain ⟨j,j1,j2,ej⟩:=ie hy;exact (Sb j (LQ-1) y xb (Lv _) 0x1 0x1 ej Ms).trans (Le.of_lt (w3 i x 0x1 0x1 ei))
      by_cases e1:(Nq==0)=true
      ·rw [if_pos e1];exact wpS_pure ⟨LZ,.inl ⟨_,_,rfl,LS _ _ _ N3 (.inl (by simpa using e1))⟩⟩
      rw [if_neg e1];have e1':Nq≠0:=by simpa using e1
      have low:∀z,0<Nq->a[Nq-1]?=some z->Le key z xb:=fun z _ ez=>w2 _ z (Lv _) 0x1 ez;have mR:Nq+LQ<=Om+Oq:=by lia
      replace q1:0<Nq:=by lia
      replace q2:Nq<=a.size:=by lia
      clear w2 w3 e1;generalize out++(a.extract Nq L8).reverse=out1 at *;generalize Nq=na1 at *;obtain ⟨Md,LR,M9⟩:=c9 (arr:=a) (i:=na1-1) 0x1;refine wpS_bind (aW Ms ?_);have L4:=Mm out1 na1 LQ xb N3 0x1 q2 Ms low;by_cases e3:(LQ-1==1)=true
      ·rw [if_pos e3];exact wpS_pure ⟨LZ,.inl ⟨_,_,rfl,Mh _ _ _ L4 (by simpa using e3)⟩⟩
      rw [if_neg e3];have e3':LQ-1≠1:=by simpa using e3
      refine wpS_bind (aW LR ?_);refine wpS_bind (gx hA (LZ.kind.trans hk) (pa _ M9) 0x1 pb (fun i j x y q1 q2 q3=>Sb i j x y (Lv _) q2 0x1) 0x1 fun at2 u1 u2 u3=>?_);dsimp only;by_cases Nn:LQ-1-at2>0
      ·rw [if_pos Nn];have MF:MH key a.toList b.toList (out1.push xb++(b.extract at2 (LQ-1)).reverse).reverse.toList (a.toList.take na1) (b.toList.take at2):=by
        have er:(out1.push xb++(b.extract at2 (LQ-1)).reverse).reverse.toList=(b.extract at2 (LQ-1)).toList++(out1.push xb).reverse.toList:=by simp
        rw [er];refine MH.b (by rw [<-jq 0x1]; exact L4) fun x hx y hy=>?_;obtain ⟨i,i1,i2,i3,ei⟩:=d7 hx;obtain ⟨j,j1,j2,ej⟩:=ie hy;exact (Sa j (na1-1) y Md (Lv _) 0x1 0x1 ej LR).trans (u3 i x 0x1 0x1 ei)
       by_cases e4:(at2==1)=true
       ·rw [if_pos e4];exact wpS_pure ⟨LZ,.inl ⟨_,_,rfl,Mh _ _ _ MF (by simpa using e4)⟩⟩
       rw [if_neg e4];have e4':at2≠1:=by simpa using e4
       by_cases e5:(at2==0)=true
       ·rw [if_pos e5];exact wpS_pure ⟨LZ,.inl ⟨_,_,rfl,LS _ _ _ MF (.inr (by simpa using e5))⟩⟩
       rw [if_neg e5];have e5':at2≠0:=by simpa using e5
       have Nd:∀z,0<at2->b[at2-1]?=some z->Le key z Md:=fun z _ ez=>Le.of_lt (u2 _ z (Lv _) 0x1 ez);have M':na1+at2<=Om+Oq:=by lia
       have gtz:1<at2:=by lia
       have OC:at2<=b.size:=by lia
       clear u2 u3 e4 e5;generalize out1.push xb++(b.extract at2 (LQ-1)).reverse=out2 at *;generalize at2=nbz at *;refine wpS_bind (aW LR ?_);have Mw:=L5 out2 na1 nbz Md MF q1 0x1 LR Nd;by_cases d1:(na1-1==0)=true
       ·rw [if_pos d1];exact wpS_pure ⟨LZ,.inl ⟨_,_,rfl,LS _ _ _ Mw (.inl (by simpa using d1))⟩⟩
       rw [if_neg d1];have O0:na1-1≠0:=by simpa using d1
       have MA:HiA key a b (out2.push Md) (na1-1) nbz:=⟨Mw,0x1,0x1,0x1,0x1⟩;split
       ·exact wpS_pure ⟨LZ,.inr ⟨_,_,_,_,_,_,rfl,MA,0x1⟩⟩
       ·exact wpS_pure ⟨LZ,_,_,_,_,_,_,rfl,MA,0x1⟩
      ·rw [if_neg Nn];have MF:=L4;have Nd:∀z,0<LQ-1->b[LQ-1-1]?=some z->Le key z Md:=fun z _ ez=>Le.of_lt (u2 _ z (Lv _) 0x1 ez);have M':na1+(LQ-1)<=Om+Oq:=by lia
       have gtz:1<LQ-1:=by lia
       have OC:LQ-1<=b.size:=by lia
       clear u2 u3 L4 Nn u1;generalize out1.push xb=out2 at *;generalize LQ-1=nbz at *;refine wpS_bind (aW LR ?_);have Mw:=L5 out2 na1 nbz Md MF q1 0x1 LR Nd;by_cases d1:(na1-1==0)=true
       ·rw [if_pos d1];exact wpS_pure ⟨LZ,.inl ⟨_,_,rfl,LS _ _ _ Mw (.inl (by simpa using d1))⟩⟩
       rw [if_neg d1];have O0:na1-1≠0:=by simpa using d1
       have MA:HiA key a b (out2.push Md) (na1-1) nbz:=⟨Mw,0x1,0x1,0x1,0x1⟩;split
       ·exact wpS_pure ⟨LZ,.inr ⟨_,_,_,_,_,_,rfl,MA,0x1⟩⟩
       ·exact wpS_pure ⟨LZ,_,_,_,_,_,_,rfl,MA,0x1⟩
     ·rw [if_neg hk0];have N3:=Mc.mi;have low:∀z,0<L8->a[L8-1]?=some z->Le key z xb:=fun z _ ez=>w2 _ z (Lv _) 0x1 ez;have mR:L8+LQ<=Om+Oq:=hyy;clear w2 w3 hk0 w1;generalize out=out1 at *;generalize L8=na1 at *;obtain ⟨Md,LR,M9⟩:=c9 (arr:=a) (i:=na1-1) 0x1;refine wpS_bind (aW Ms ?_);have L4:=Mm out1 na1 LQ xb N3 0x1 q2 Ms low;by_cases e3:(LQ-1==1)=true
      ·rw [if_pos e3];exact wpS_pure ⟨LZ,.inl ⟨_,_,rfl,Mh _ _ _ L4 (by simpa using e3)⟩⟩
      rw [if_neg e3];have e3':LQ-1≠1:=by simpa using e3
      refine wpS_bind (aW LR ?_);refine wpS_bind (gx hA (LZ.kind.trans hk) (pa _ M9) 0x1 pb (fun i j x y q1 q2 q3=>Sb i j x y (Lv _) q2 0x1) 0x1 fun at2 u1 u2 u3=>?_);dsimp only;by_cases Nn:LQ-1-at2>0
      ·rw [if_pos Nn];have MF:MH key a.toList b.toList (out1.push xb++(b.extract at2 (LQ-1)).reverse).reverse.toList (a.toList.take na1) (b.toList.take at2):=by
        have er:(out1.push xb++(b.extract at2 (LQ-1)).reverse).reverse.toList=(b.extract at2 (LQ-1)).toList++(out1.push xb).reverse.toList:=by simp
        rw [er];refine MH.b (by rw [<-jq 0x1]; exact L4) fun x hx y hy=>?_;obtain ⟨i,i1,i2,i3,ei⟩:=d7 hx;obtain ⟨j,j1,j2,ej⟩:=ie hy;exact (Sa j (na1-1) y Md (Lv _) 0x1 0x1 ej LR).trans (u3 i x 0x1 0x1 ei)
       by_cases e4:(at2==1)=true
       ·rw [if_pos e4];exact wpS_pure ⟨LZ,.inl ⟨_,_,rfl,Mh _ _ _ MF (by simpa using e4)⟩⟩
       rw [if_neg e4];have e4':at2≠1:=by simpa using e4
       by_cases e5:(at2==0)=true
       ·rw [if_pos e5];exact wpS_pure ⟨LZ,.inl ⟨_,_,rfl,LS _ _ _ MF (.inr (by simpa using e5))⟩⟩
       rw [if_neg e5];have e5':at2≠0:=by simpa using e5
       have Nd:∀z,0<at2->b[at2-1]?=some z->Le key z Md:=fun z _ ez=>Le.of_lt (u2 _ z (Lv _) 0x1 ez);have M':na1+at2<=Om+Oq:=by lia
       have gtz:1<at2:=by lia
       have OC:at2<=b.size:=by lia
       clear u2 u3 e4 e5;generalize out1.push xb++(b.extract at2 (LQ-1)).reverse=out2 at *;generalize at2=nbz at *;refine wpS_bind (aW LR ?_);have Mw:=L5 out2 na1 nbz Md MF q1 0x1 LR Nd;by_cases d1:(na1-1==0)=true
       ·rw [if_pos d1];exact wpS_pure ⟨LZ,.inl ⟨_,_,rfl,LS _ _ _ Mw (.inl (by simpa using d1))⟩⟩
       rw [if_neg d1];have O0:na1-1≠0:=by simpa using d1
       have MA:HiA key a b (out2.push Md) (na1-1) nbz:=⟨Mw,0x1,0x1,0x1,0x1⟩;split
       ·exact wpS_pure ⟨LZ,.inr ⟨_,_,_,_,_,_,rfl,MA,0x1⟩⟩
       ·exact wpS_pure ⟨LZ,_,_,_,_,_,_,rfl,MA,0x1⟩
      ·rw [if_neg Nn];have MF:=L4;have Nd:∀z,0<LQ-1->b[LQ-1-1]?=some z->Le key z Md:=fun z _ ez=>Le.of_lt (u2 _ z (Lv _) 0x1 ez);have M':na1+(LQ-1)<=Om+Oq:=by lia
       have gtz:1<LQ-1:=by lia
       have OC:LQ-1<=b.size:=by lia
       clear u2 u3 L4 Nn u1;generalize out1.push xb=out2 at *;generalize LQ-1=nbz at *;refine wpS_bind (aW LR ?_);have Mw:=L5 out2 na1 nbz Md MF q1 0x1 LR Nd;by_cases d1:(na1-1==0)=true
       ·rw [if_pos d1];exact wpS_pure ⟨LZ,.inl ⟨_,_,rfl,LS _ _ _ Mw (.inl (by simpa using d1))⟩⟩
       rw [if_neg d1];have O0:na1-1≠0:=by simpa using d1
       have MA:HiA key a b (out2.push Md) (na1-1) nbz:=⟨Mw,0x1,0x1,0x1,0x1⟩;split
       ·exact wpS_pure ⟨LZ,.inr ⟨_,_,_,_,_,_,rfl,MA,0x1⟩⟩
       ·exact wpS_pure ⟨LZ,_,_,_,_,_,_,rfl,MA,0x1⟩
end
noncomputable def kA (key:Keyed->List Int) (arr:Array Keyed) (i:Nat):List Int:=match arr[i]? with
 |some x=>key x
 |none=>[]
structure Fr (lo hi:Nat) (st F':SortSt):Prop where
 kind:kindOf F'=kindOf st
 pend:pendingOf F'=pendingOf st
 failed:failedOf F'=failedOf st
 perm:(arrOf F').Perm (arrOf st)
 same:∀i,(i<lo\/hi<=i)->(arrOf F')[i]?=(arrOf st)[i]?
theorem Fr.refl {lo hi:Nat} (st:SortSt):Fr lo hi st st:=⟨rfl,rfl,rfl,Array.Perm.refl _,fun _ _=>rfl⟩
theorem Fr.trans {lo hi:Nat} {a b c:SortSt} (h1:Fr lo hi a b) (h2:Fr lo hi b c):Fr lo hi a c:=
 ⟨h2.kind.trans h1.kind,h2.pend.trans h1.pend,h2.failed.trans h1.failed,h2.perm.trans h1.perm,fun i hi=>(h2.same i hi).trans (h1.same i hi)⟩
theorem Fr.size {lo hi:Nat} {a b:SortSt} (h:Fr lo hi a b):(arrOf b).size=(arrOf a).size:=h.perm.size_eq
section
variable {key:Keyed->List Int}
variable {arr:Array Keyed} {i:Nat}
theorem qQ {x:Keyed} (h:arr[i]?=some x):kA key arr i=key x:=by unfold kA; rw [h]
variable {a b:Array Keyed} {j:Nat}
theorem jP (h:a[i]?=b[j]?):kA key a i=kA key b j:=by unfold kA; rw [h]
def vt (key:Keyed->List Int) (arr:Array Keyed) (lo hi:Nat):Prop:=∀i j,lo<=i->i<=j->j<hi->ll (kA key arr j) (kA key arr i)=false
def uI (key:Keyed->List Int) (arr:Array Keyed) (lo hi:Nat):Prop:=∀i j,lo<=i->i<=j->j<hi->ll (kA key arr i) (kA key arr j)=false
variable {lo hi:Nat}
theorem vt.seg (h:vt key arr lo hi):eZ key arr lo hi:=fun i j x y h1 h2 h3 ex ey=>by
 have:=h i j h1 h2 h3;rw [qQ ex,qQ ey] at this;exact this
theorem eZ.up (h:eZ key arr lo hi) (hz:hi<=arr.size):vt key arr lo hi:=fun i j h1 h2 h3=>by
 obtain ⟨x,ex,_⟩:=c9 (arr:=arr) (i:=i) 0x1;obtain ⟨y,ey,_⟩:=c9 (arr:=arr) (i:=j) 0x1;rw [qQ ex,qQ ey];exact h i j x y h1 h2 h3 ex ey
theorem eZ.congr (h:eZ key a lo hi) (e:∀i,lo<=i->i<hi->b[i]?=a[i]?):eZ key b lo hi:=fun i j x y h1 h2 h3 ex ey=>
 h i j x y h1 h2 h3 (by rw [<-e i h1 0x1]; exact ex) (by rw [<-e j 0x1 h3]; exact ey)
theorem vt.step {x:Nat} (h:vt key arr lo x) (hl:lo<x) (c:ll (kA key arr x) (kA key arr (x-1))=false):vt key arr lo (x+1):=fun i j h1 h2 h3=>by
 by_cases hj:j<x
 ·exact h i j h1 h2 hj
 ·have:j=x:=by lia
  subst this;by_cases hi:i=j
  ·subst hi; exact eG _
  ·exact gq (h i (j-1) h1 0x1 0x1) c
theorem uI.step {x:Nat} (h:uI key arr lo x) (hl:lo<x) (c:ll (kA key arr (x-1)) (kA key arr x)=false):uI key arr lo (x+1):=fun i j h1 h2 h3=>by
 by_cases hj:j<x
 ·exact h i j h1 h2 hj
 ·have:j=x:=by lia
  subst this;by_cases hi:i=j
  ·subst hi; exact eG _
  ·exact gq c (h i (j-1) h1 0x1 0x1)
theorem uI.congr (h:uI key a lo hi) (e:∀k,kA key b k=kA key a k):uI key b lo hi:=fun i j h1 h2 h3=>by rw [e,e]; exact h i j h1 h2 h3
theorem ic (hj:j<=arr.size) (k:Nat):kA key (mirror arr i j ((j-i) / 2)) k=if i<=k/\k<j then kA key arr (i+j-1-k) else kA key arr k:=by
 have e:=getElem?_mirror_all (xs:=arr) (i:=i) hj k;split
 ·rename_i h; rw [if_pos h] at e; exact jP e
 ·rename_i h; rw [if_neg h] at e; exact jP e
theorem eO (hj:j<=arr.size) (h:∀a,i<=a->a<j->kA key arr a=kA key arr (j-1)) (k:Nat):kA key (mirror arr i j ((j-i) / 2)) k=kA key arr k:=by
 rw [ic hj];split
 ·rw [h _ 0x1 0x1,h k 0x1 0x1]
 ·rfl
theorem nt {k d:Nat} (hk:k<arr.size) (hd:d<=k) (m:Nat):kA key (bubble arr k d) m=if m=k-d then kA key arr k else if k-d<m/\m<=k then kA key arr (m-1) else kA key arr m:=by
 have e:=getElem?_bubble (xs:=arr) hk d hd m;split
 ·rename_i h; rw [if_pos h] at e; exact jP e
 ·rename_i h; rw [if_neg h] at e
  split
  ·rename_i h2; rw [if_pos h2] at e; exact jP e
  ·rename_i h2; rw [if_neg h2] at e; exact jP e
theorem Fr.mirror {lo hi i j:Nat} {st:SortSt} (h1:lo<=i) (h2:j<=hi) (hz:j<=(arrOf st).size):Fr lo hi st (setArr st (mirror (arrOf st) i j ((j-i) / 2))):=
 ⟨rfl,rfl,rfl,mirror_perm _ _ _ _,fun k hk=>by
  show (PyProof.Rows.mirror (arrOf st) i j ((j-i) / 2))[k]?=(arrOf st)[k]?;rw [getElem?_mirror_all hz,if_neg 0x1]⟩
theorem Fr.bubble {lo hi k d:Nat} {st:SortSt} (h1:lo+d<=k) (h2:k<hi) (hz:k<(arrOf st).size):Fr lo hi st (setArr st (bubble (arrOf st) k d)):=
 ⟨rfl,rfl,rfl,bubble_perm _ _ _,fun m hm=>by
  show (PyProof.Rows.bubble (arrOf st) k d)[m]?=(arrOf st)[m]?;rw [getElem?_bubble hz d 0x1,if_neg 0x1,if_neg 0x1]⟩
end
section
variable {M:Model} {A:Around} {E:Value->Shared->Prop} {s:Shared} {κ:SortKind} {key:Keyed->List Int} {P:Keyed->Prop}
variable {st:SortSt} {i j:Nat}
theorem kH {Q:Unit->SortSt->Prop} (h:Q () (setArr st (mirror (arrOf st) i j ((j-i) / 2)))):wpS M A E s (reverseSlice' i j) Q st:=by
 rw [reverseSlice'_eq]; exact wpS_modify h
theorem C6 {Q:Unit->SortSt->Prop} (h:Q () (setArr st (bubble (arrOf st) i (i-j)))):wpS M A E s (moveDown' i j) Q st:=by
 rw [moveDown'_eq]; exact wpS_modify h
theorem gd (hA:nN M A E s κ key P) {Q:Option Bool->SortSt->Prop} (hk:kindOf st=κ) (hP:∀x∈(arrOf st).toList,P x) (hi:i<(arrOf st).size) (hj:j<(arrOf st).size)
  (h:Q (some (ll (kA key (arrOf st) i) (kA key (arrOf st) j))) st):wpS M A E s (ltAt' i j) Q st:=by
 obtain ⟨x,ex,mx⟩:=c9 (arr:=arrOf st) hi;obtain ⟨y,ey,my⟩:=c9 (arr:=arrOf st) hj;rw [qQ ex,qQ ey] at h;rw [ltAt'_eq];refine wpS_bind (wpS_get ?_);exact wpS_bind (aW ex (wpS_bind (aW ey (hA x y st _ hk (hP x mx) (hP y my) h))))
variable {lo:Nat}
theorem Fr.allP {hi:Nat} {a b:SortSt} (h:Fr lo hi a b) (hP:∀x∈(arrOf a).toList,P x):∀x∈(arrOf b).toList,P x:=fun x hx=>hP x ((Array.perm_iff_toList_perm.mp h.perm).mem_iff.mp hx)
theorem vg (hA:nN M A E s κ key P) {LJ:Nat} {Q:Option Nat->SortSt->Prop} (hk:kindOf st=κ) (hP:∀x∈(arrOf st).toList,P x) (h1:1<=LJ) (hz:lo+LJ<=(arrOf st).size)
  (h:∀n F',1<=n->n<=LJ->Fr lo (lo+LJ) st F'->eZ key (arrOf F') lo (lo+n)->Q (some n) F'):wpS M A E s (countRun' lo LJ) Q st:=by
 refine wpS_bind (wpS_mono (wpS_forRange (I:=fun x c F'=>F'=st/\c=(none,x)/\vt key (arrOf st) lo (lo+x))
  (Q:=fun c F'=>F'=st/\∃n,c=(none,n)/\1<=n/\n<=LJ/\vt key (arrOf st) lo (lo+n)/\(n=LJ\/ll (kA key (arrOf st) (lo+n)) (kA key (arrOf st) (lo+n-1))=true)) ?_ ?_
  ⟨rfl,rfl,fun i j q1 q2 q3=>by rw [show i=j by lia]; exact eG _⟩) ?_)
 ·rintro x c F' q1 q2 ⟨rfl,rfl,hu⟩;dsimp only;refine wpS_bind (gd hA hk hP 0x1 0x1 ?_);dsimp only;cases c1:ll (kA key (arrOf F') (lo+x)) (kA key (arrOf F') (lo+x-1)) with
  |true=>exact wpS_pure ⟨rfl,x,rfl,q1,0x1,hu,.inr c1⟩
  |false=>exact wpS_pure ⟨rfl,rfl,hu.step 0x1 c1⟩
 ·rintro c F' ⟨rfl,rfl,hu⟩;rw [show max 1 LJ=LJ by lia] at hu ⊢;exact ⟨rfl,LJ,rfl,h1,K9 _,hu,.inl rfl⟩
 rintro c F' ⟨rfl,n,rfl,n1,n2,hu,hor⟩;dsimp only;by_cases e1:(n==LJ)=true
 ·rw [if_pos e1];exact wpS_pure (h n _ n1 n2 (Fr.refl _) hu.seg)
 rw [if_neg e1];have e1':n≠LJ:=by simpa using e1
 have LV:=hor.resolve_left e1';by_cases e2:n>1
 ·rw [if_pos e2];refine wpS_bind (gd hA hk hP 0x1 0x1 ?_);dsimp only;cases c1:ll (kA key (arrOf F') lo) (kA key (arrOf F') (lo+n-1)) with
  |true=>exact wpS_pure (h n _ n1 n2 (Fr.refl _) hu.seg)
  |false=>
   rw [if_neg 0x4];have Od:∀a,lo<=a->a<lo+n->kA key (arrOf F') a=kA key (arrOf F') (lo+n-1):=fun a q1 q2=>
    jC (gq c1 (hu lo a (K9 _) q1 q2)) (hu a (lo+n-1) q1 0x1 0x1)
   have eqk:=eO (key:=key) (arr:=arrOf F') (i:=lo) (j:=lo+n) 0x1 Od;refine wpS_bind (kH ?_);have F0:Fr lo (lo+LJ) F' (setArr F' (mirror (arrOf F') lo (lo+n) ((lo+n-lo) / 2))):=Fr.mirror (K9 _) 0x1 0x1;have D0:uI key (arrOf (setArr F' (mirror (arrOf F') lo (lo+n) ((lo+n-lo) / 2)))) lo (lo+(n+1)):=by
    refine uI.congr (a:=arrOf F') (fun i j q1 q2 q3=>?_) eqk;by_cases hj:j=lo+n
    ·subst hj;by_cases hi:i=lo+n
     ·subst hi; exact eG _
     ·rw [Od i q1 0x1]; exact fF LV
    ·rw [Od i q1 0x1,Od j 0x1 0x1]; exact eG _
   generalize setArr F' (mirror (arrOf F') lo (lo+n) ((lo+n-lo) / 2))=st0 at *;have K0:=F0.kind.trans hk;have Z0:=F0.size;refine wpS_bind (wpS_lift (wpAny_rule ⟨rfl,?_⟩));refine wpS_bind (wpS_mono (wpS_forRange
    (I:=fun x c LI=>∃q,c=(none,x,q)/\Fr lo (lo+LJ) F' LI/\uI key (arrOf LI) lo (lo+x)/\q+1<=x/\∀i,lo+x-(q+1)<=i->i<lo+x->kA key (arrOf LI) i=kA key (arrOf LI) (lo+x-1))
    (Q:=fun c LI=>∃m q,c=(none,m,q)/\n+1<=m/\m<=LJ/\Fr lo (lo+LJ) F' LI/\uI key (arrOf LI) lo (lo+m)/\q+1<=m/\∀i,lo+m-(q+1)<=i->i<lo+m->kA key (arrOf LI) i=kA key (arrOf LI) (lo+m-1))
    ?_ ?_ ⟨0,rfl,F0,D0,0x1,fun i q1 q2=>by rw [show i=lo+(n+1)-1 by lia]⟩) ?_)
   ·rintro x c LI x1 x2 ⟨q,rfl,F1,D1,hq,heq⟩;dsimp only;have K1:=F1.kind.trans hk;have Z1:=F1.size;refine wpS_bind (gd hA K1 (F1.allP hP) 0x1 0x1 ?_);dsimp only;cases c2:ll (kA key (arrOf LI) (lo+x)) (kA key (arrOf LI) (lo+x-1)) with
    |true=>
     rw [if_pos rfl];have D2:uI key (arrOf LI) lo (lo+x+1):=D1.step 0x1 (fF c2);by_cases hq0:q>0
     ·rw [if_pos hq0];refine wpS_bind (kH (wpS_pure ⟨0,rfl,F1.trans (Fr.mirror 0x1 0x1 0x1),?_,0x1,fun i q1 q2=>by rw [show i=lo+(x+1)-1 by lia]⟩));exact D2.congr (eO 0x1 heq)
     ·rw [if_neg hq0];exact wpS_pure ⟨0,rfl,F1,D2,0x1,fun i q1 q2=>by rw [show i=lo+(x+1)-1 by lia]⟩
    |false=>
     rw [if_neg 0x4];refine wpS_bind (gd hA K1 (F1.allP hP) 0x1 0x1 ?_);dsimp only;cases c3:ll (kA key (arrOf LI) (lo+x-1)) (kA key (arrOf LI) (lo+x)) with
     |true=>exact wpS_pure ⟨x,q,rfl,x1,0x1,F1,D1,hq,heq⟩
     |false=>
      have ex:kA key (arrOf LI) (lo+x-1)=kA key (arrOf LI) (lo+x):=jC c3 c2;refine wpS_pure ⟨q+1,rfl,F1,D1.step 0x1 c3,0x1,fun i q1 q2=>?_⟩;rw [show lo+(x+1)-1=lo+x by lia];by_cases hi:i=lo+x
      ·rw [hi]
      ·rw [<-ex]; exact heq i 0x1 0x1
   ·rintro c LI ⟨q,rfl,F1,D1,hq,heq⟩;rw [show max (n+1) LJ=LJ by lia] at *;exact ⟨LJ,q,rfl,0x1,K9 _,F1,D1,hq,heq⟩
   rintro c LI ⟨m,q,rfl,m1,m2,F1,D1,hq,heq⟩;dsimp only;have Z1:=F1.size;have last:∀LP,Fr lo (lo+LJ) F' LP->uI key (arrOf LP) lo (lo+m)->∀Mf,Mf=setArr LP (mirror (arrOf LP) lo (lo+m) ((lo+m-lo) / 2))->Fr lo (lo+LJ) F' Mf/\vt key (arrOf Mf) lo (lo+m):=fun LP F2 D2 Mf e3=>by
    have Z2:=F2.size;subst e3;refine ⟨F2.trans (Fr.mirror (K9 _) 0x1 0x1),fun i j q1 q2 q3=>?_⟩;show ll (kA key (mirror (arrOf LP) lo (lo+m) ((lo+m-lo) / 2)) j) (kA key (mirror (arrOf LP) lo (lo+m) ((lo+m-lo) / 2)) i)=false;rw [ic 0x1,ic 0x1,if_pos 0x1,if_pos 0x1];exact D2 _ _ 0x1 0x1 0x1
   by_cases hq0:q>0
   case' pos=>
    rw [if_pos hq0];refine wpS_bind (kH ?_);obtain ⟨F3,U3⟩:=last (setArr LI (mirror (arrOf LI) (lo+m-(q+1)) (lo+m) ((lo+m-(lo+m-(q+1))) / 2))) (F1.trans (Fr.mirror 0x1 0x1 0x1)) (D1.congr (eO 0x1 heq)) _ rfl
   case' neg=>
    rw [if_neg hq0];obtain ⟨F3,U3⟩:=last LI F1 D1 _ rfl
   all_goals
    refine wpS_bind (kH ?_);have Z3:=F3.size;refine wpS_bind (wpS_mono (wpS_forRange (I:=fun x c LU=>LU=_/\c=(none,x)/\vt key (arrOf LU) lo (lo+x))
     (Q:=fun c LU=>Fr lo (lo+LJ) F' LU/\∃n,c=(none,n)/\1<=n/\n<=LJ/\vt key (arrOf LU) lo (lo+n)) ?_ ?_ ⟨rfl,rfl,U3⟩) ?_)
    ·rintro x c LU q1 q2 ⟨rfl,rfl,hu⟩;dsimp only;refine wpS_bind (gd hA (F3.kind.trans hk) (F3.allP hP) 0x1 0x1 ?_);split
     ·rename_i b eb;cases eb;split
      ·exact wpS_pure ⟨F3,x,rfl,0x1,0x1,hu⟩
      ·rename_i c5;exact wpS_pure ⟨rfl,rfl,hu.step 0x1 (by simpa using c5)⟩
     ·rename_i eb;exact absurd rfl (eb _)
    ·rintro c LU ⟨rfl,rfl,hu⟩;rw [show max m LJ=LJ by lia] at hu ⊢;exact ⟨F3,LJ,rfl,h1,K9 _,hu⟩
    ·rintro c LU ⟨F4,n',rfl,q1,q2,hu⟩;exact wpS_pure (h n' _ q1 q2 F4 hu.seg)
 ·rw [if_neg e2];have F0:Fr lo (lo+LJ) F' F':=Fr.refl _;have D0:uI key (arrOf F') lo (lo+(n+1)):=fun i j q1 q2 q3=>by
   by_cases hi:i=j
   ·subst hi; exact eG _
   ·have e3:i=lo+n-1:=by lia
    have e4:j=lo+n:=by lia
    subst e3; subst e4
    exact fF LV
  obtain ⟨st0,OY⟩:∃x,x=F':=⟨_,rfl⟩;have F0:Fr lo (lo+LJ) F' st0:=by rw [OY]; exact Fr.refl _
  rw [<-OY] at D0;rw [show wpS M A E s _ Q F'=wpS M A E s _ Q st0 from by rw [OY]];have K0:=F0.kind.trans hk;have Z0:=F0.size;refine wpS_bind (wpS_lift (wpAny_rule ⟨rfl,?_⟩));refine wpS_bind (wpS_mono (wpS_forRange
   (I:=fun x c LI=>∃q,c=(none,x,q)/\Fr lo (lo+LJ) F' LI/\uI key (arrOf LI) lo (lo+x)/\q+1<=x/\∀i,lo+x-(q+1)<=i->i<lo+x->kA key (arrOf LI) i=kA key (arrOf LI) (lo+x-1))
   (Q:=fun c LI=>∃m q,c=(none,m,q)/\n+1<=m/\m<=LJ/\Fr lo (lo+LJ) F' LI/\uI key (arrOf LI) lo (lo+m)/\q+1<=m/\∀i,lo+m-(q+1)<=i->i<lo+m->kA key (arrOf LI) i=kA key (arrOf LI) (lo+m-1))
   ?_ ?_ ⟨0,rfl,F0,D0,0x1,fun i q1 q2=>by rw [show i=lo+(n+1)-1 by lia]⟩) ?_)
  ·rintro x c LI x1 x2 ⟨q,rfl,F1,D1,hq,heq⟩;dsimp only;have K1:=F1.kind.trans hk;have Z1:=F1.size;refine wpS_bind (gd hA K1 (F1.allP hP) 0x1 0x1 ?_);dsimp only;cases c2:ll (kA key (arrOf LI) (lo+x)) (kA key (arrOf LI) (lo+x-1)) with
   |true=>
    rw [if_pos rfl];have D2:uI key (arrOf LI) lo (lo+x+1):=D1.step 0x1 (fF c2);by_cases hq0:q>0
    ·rw [if_pos hq0];refine wpS_bind (kH (wpS_pure ⟨0,rfl,F1.trans (Fr.mirror 0x1 0x1 0x1),?_,0x1,fun i q1 q2=>by rw [show i=lo+(x+1)-1 by lia]⟩));exact D2.congr (eO 0x1 heq)
    ·rw [if_neg hq0];exact wpS_pure ⟨0,rfl,F1,D2,0x1,fun i q1 q2=>by rw [show i=lo+(x+1)-1 by lia]⟩
   |false=>
    rw [if_neg 0x4];refine wpS_bind (gd hA K1 (F1.allP hP) 0x1 0x1 ?_);dsimp only;cases c3:ll (kA key (arrOf LI) (lo+x-1)) (kA key (arrOf LI) (lo+x)) with
    |true=>exact wpS_pure ⟨x,q,rfl,x1,0x1,F1,D1,hq,heq⟩
    |false=>
     have ex:kA key (arrOf LI) (lo+x-1)=kA key (arrOf LI) (lo+x):=jC c3 c2;refine wpS_pure ⟨q+1,rfl,F1,D1.step 0x1 c3,0x1,fun i q1 q2=>?_⟩;rw [show lo+(x+1)-1=lo+x by lia];by_cases hi:i=lo+x
     ·rw [hi]
     ·rw [<-ex]; exact heq i 0x1 0x1
  ·rintro c LI ⟨q,rfl,F1,D1,hq,heq⟩;rw [show max (n+1) LJ=LJ by lia] at *;exact ⟨LJ,q,rfl,0x1,K9 _,F1,D1,hq,heq⟩
  rintro c LI ⟨m,q,rfl,m1,m2,F1,D1,hq,heq⟩;dsimp only;have Z1:=F1.size;have last:∀LP,Fr lo (lo+LJ) F' LP->uI key (arrOf LP) lo (lo+m)->∀Mf,Mf=setArr LP (mirror (arrOf LP) lo (lo+m) ((lo+m-lo) / 2))->Fr lo (lo+LJ) F' Mf/\vt key (arrOf Mf) lo (lo+m):=fun LP F2 D2 Mf e3=>by
   have Z2:=F2.size;subst e3;refine ⟨F2.trans (Fr.mirror (K9 _) 0x1 0x1),fun i j q1 q2 q3=>?_⟩;show ll (kA key (mirror (arrOf LP) lo (lo+m) ((lo+m-lo) / 2)) j) (kA key (mirror (arrOf LP) lo (lo+m) ((lo+m-lo) / 2)) i)=false;rw [ic 0x1,ic 0x1,if_pos 0x1,if_pos 0x1];exact D2 _ _ 0x1 0x1 0x1
  by_cases hq0:q>0
  case' pos=>
   rw [if_pos hq0];refine wpS_bind (kH ?_);obtain ⟨F3,U3⟩:=last (setArr LI (mirror (arrOf LI) (lo+m-(q+1)) (lo+m) ((lo+m-(lo+m-(q+1))) / 2))) (F1.trans (Fr.mirror 0x1 0x1 0x1)) (D1.congr (eO 0x1 heq)) _ rfl
  case' neg=>
   rw [if_neg hq0];obtain ⟨F3,U3⟩:=last LI F1 D1 _ rfl
  all_goals
   refine wpS_bind (kH ?_);have Z3:=F3.size;refine wpS_bind (wpS_mono (wpS_forRange (I:=fun x c LU=>LU=_/\c=(none,x)/\vt key (arrOf LU) lo (lo+x))
    (Q:=fun c LU=>Fr lo (lo+LJ) F' LU/\∃n,c=(none,n)/\1<=n/\n<=LJ/\vt key (arrOf LU) lo (lo+n)) ?_ ?_ ⟨rfl,rfl,U3⟩) ?_)
   ·rintro x c LU q1 q2 ⟨rfl,rfl,hu⟩;dsimp only;refine wpS_bind (gd hA (F3.kind.trans hk) (F3.allP hP) 0x1 0x1 ?_);split
    ·rename_i b eb;cases eb;split
     ·exact wpS_pure ⟨F3,x,rfl,0x1,0x1,hu⟩
     ·rename_i c5;exact wpS_pure ⟨rfl,rfl,hu.step 0x1 (by simpa using c5)⟩
    ·rename_i eb;exact absurd rfl (eb _)
   ·rintro c LU ⟨rfl,rfl,hu⟩;rw [show max m LJ=LJ by lia] at hu ⊢;exact ⟨F3,LJ,rfl,h1,K9 _,hu⟩
   ·rintro c LU ⟨F4,n',rfl,q1,q2,hu⟩;exact wpS_pure (h n' _ q1 q2 F4 hu.seg)
theorem qC (hA:nN M A E s κ key P) {n ok:Nat} {Q:Bool->SortSt->Prop} (hk:kindOf st=κ) (hP:∀x∈(arrOf st).toList,P x) (h1:1<=ok) (hok:ok<=n) (hz:lo+n<=(arrOf st).size)
  (hs:eZ key (arrOf st) lo (lo+ok)) (h:∀F',Fr lo (lo+n) st F'->eZ key (arrOf F') lo (lo+n)->Q true F'):wpS M A E s (binarySort' lo n ok) Q st:=by
 refine wpS_bind (wpS_mono (wpS_forRange (I:=fun k c F'=>c=(none,())/\Fr lo (lo+n) st F'/\vt key (arrOf F') lo (lo+k))
  (Q:=fun c F'=>c=(none,())/\Fr lo (lo+n) st F'/\vt key (arrOf F') lo (lo+n)) ?_ ?_ ⟨rfl,Fr.refl _,by rw [show max ok 1=ok by lia]; exact hs.up 0x1⟩) ?_)
 ·rintro k c LI k1 k2 ⟨rfl,F1,U1⟩;have Z1:=F1.size;dsimp only;refine wpS_bind (wpS_mono (wpS_forRange (I:=fun x c LP=>LP=LI/\∃l r,c=(none,l,r)/\l<=r/\r<=k/\r-l<=k-x /\
    (∀i,i<l->ll (kA key (arrOf LI) (lo+k)) (kA key (arrOf LI) (lo+i))=false)/\(∀i,r<=i->i<k->ll (kA key (arrOf LI) (lo+k)) (kA key (arrOf LI) (lo+i))=true))
   (Q:=fun c LP=>LP=LI/\∃l r,c=(none,l,r)/\l<=k /\
    (∀i,i<l->ll (kA key (arrOf LI) (lo+k)) (kA key (arrOf LI) (lo+i))=false)/\(∀i,l<=i->i<k->ll (kA key (arrOf LI) (lo+k)) (kA key (arrOf LI) (lo+i))=true)) ?_ ?_
   ⟨rfl,0,k,rfl,0x1,0x1,0x1,fun i hi=>0x1,fun i h1 h2=>0x1⟩) ?_)
  ·rintro x c LP _ hx ⟨rfl,l,r,rfl,q1,q2,q3,q4,q5⟩;dsimp only;by_cases hlr:l>=r
   ·rw [if_pos hlr];exact wpS_pure ⟨rfl,l,r,rfl,0x1,q4,fun i u1 u2=>q5 i 0x1 u2⟩
   ·rw [if_neg hlr];refine wpS_bind (gd hA (F1.kind.trans hk) (F1.allP hP) 0x1 0x1 ?_);dsimp only;cases c1:ll (kA key (arrOf LP) (lo+k)) (kA key (arrOf LP) (lo+(l+r) / 2)) with
    |true=>exact wpS_pure ⟨rfl,l,(l+r) / 2,rfl,0x1,0x1,0x1,q4,fun i u1 u2=>AR c1 (U1 _ _ 0x1 0x1 0x1)⟩
    |false=>exact wpS_pure ⟨rfl,(l+r) / 2+1,r,rfl,0x1,0x1,0x1,fun i u1=>gq (U1 (lo+i) (lo+(l+r) / 2) 0x1 0x1 0x1) c1,q5⟩
  ·rintro c LP ⟨rfl,l,r,rfl,q1,q2,q3,q4,q5⟩;exact ⟨rfl,l,r,rfl,0x1,q4,fun i u1 u2=>q5 i 0x1 u2⟩
  ·rintro c LP ⟨rfl,l,r,rfl,q1,q4,q5⟩;dsimp only;refine wpS_bind (C6 (wpS_pure ⟨rfl,F1.trans (Fr.bubble 0x1 0x1 0x1),?_⟩));intro i j u1 u2 u3;have hd:lo+k-(lo+k-(lo+l))=lo+l:=by lia
   have OI:kA key (bubble (arrOf LP) (lo+k) (lo+k-(lo+l))) (lo+l)=kA key (arrOf LP) (lo+k):=by rw [nt 0x1 0x1,hd,if_pos rfl]
   have N6:∀m,lo+l<m->m<=lo+k->kA key (bubble (arrOf LP) (lo+k) (lo+k-(lo+l))) m=kA key (arrOf LP) (m-1):=fun m w1 w2=>by rw [nt 0x1 0x1,hd,if_neg 0x1,if_pos ⟨w1,w2⟩]
   have at_s:∀m,m<lo+l->kA key (bubble (arrOf LP) (lo+k) (lo+k-(lo+l))) m=kA key (arrOf LP) m:=fun m w1=>by rw [nt 0x1 0x1,hd,if_neg 0x1,if_neg 0x1]
   show ll (kA key (bubble (arrOf LP) (lo+k) (lo+k-(lo+l))) j) (kA key (bubble (arrOf LP) (lo+k) (lo+k-(lo+l))) i)=false;rcases Nat.lt_trichotomy i (lo+l) with hi|hi|hi
   ·rw [at_s i hi];rcases Nat.lt_trichotomy j (lo+l) with hj|hj|hj
    ·rw [at_s j hj]; exact U1 i j u1 u2 0x1
    ·rw [hj,OI];have:=q4 (i-lo) 0x1
     rwa [show lo+(i-lo)=i by lia] at this
    ·rw [N6 j hj 0x1]; exact U1 i (j-1) u1 0x1 0x1
   ·rw [hi,OI];rcases Nat.lt_trichotomy j (lo+l) with hj|hj|hj
    ·lia
    ·rw [hj,OI]; exact eG _
    ·rw [N6 j hj 0x1];have:=q5 (j-1-lo) 0x1 0x1;rw [show lo+(j-1-lo)=j-1 by lia] at this;exact fF this
   ·rw [N6 i hi 0x1,N6 j 0x1 0x1];exact U1 (i-1) (j-1) 0x1 0x1 0x1
 ·rintro c LI ⟨rfl,F1,U1⟩;rw [show max (max ok 1) n=n by lia] at U1;exact ⟨rfl,F1,U1⟩
 ·rintro c LI ⟨rfl,F1,U1⟩;exact wpS_pure (h LI F1 U1.seg)
end
variable {sa:Nat}
theorem Ep {l:List Keyed} {k:Nat}:∀(n:Nat) (arr:Array Keyed),sa+n+l.length<=arr.size ->
  ((l.zipIdx n).foldl (fun a (x:Keyed×Nat)=>match x with|(p,j)=>a.setIfInBounds (sa+j) p) arr)[k]?=if sa+n<=k/\k<sa+n+l.length then l[k-sa-n]? else arr[k]?:=by
 induction l with
 |nil=>intro n arr _; rw [if_neg 0x4]; rfl
 |cons x r ih=>
  intro n arr hz;simp only [List.length_cons] at hz;rw [List.zipIdx_cons,List.foldl_cons,ih (n+1) _ (by rw [Array.size_setIfInBounds]; lia)];by_cases h1:sa+(n+1)<=k/\k<sa+(n+1)+r.length
  ·rw [if_pos h1,if_pos (by simp only [List.length_cons]; lia)];rw [show k-sa-n=(k-sa-(n+1))+1 by lia,List.getElem?_cons_succ]
  ·rw [if_neg h1,Array.getElem?_setIfInBounds];by_cases h2:sa+n=k
   ·rw [if_pos h2,if_pos 0x1,if_pos (by simp only [List.length_cons]; lia),show k-sa-n=0 by lia];rfl
   ·rw [if_neg h2,if_neg (by simp only [List.length_cons]; lia)]
theorem yH {l:List Keyed}:∀(n:Nat) (arr:Array Keyed),((l.zipIdx n).foldl (fun a (x:Keyed×Nat)=>match x with|(p,j)=>a.setIfInBounds (sa+j) p) arr).size=arr.size:=by
 induction l with
 |nil=>intro n arr; rfl
 |cons x r ih=>intro n arr; rw [List.zipIdx_cons,List.foldl_cons,ih]; exact Array.size_setIfInBounds
variable {key:Keyed->List Int} {lo:Nat}
theorem xy {arr:Array Keyed} {hi:Nat} (h:eZ key arr lo hi) (hz:hi<=arr.size):(arr.extract lo hi).toList.Pairwise (Le key):=by
 refine List.pairwise_iff_getElem.mpr fun i j hi hj Ov=>?_;simp at hi hj;have e1:arr[lo+i]?=some ((arr.extract lo _).toList[i]'(by simpa using hi)):=by
  have:lo+i<arr.size:=by lia
  simp [this]
 have e2:arr[lo+j]?=some ((arr.extract lo _).toList[j]'(by simpa using hj)):=by
  have:lo+j<arr.size:=by lia
  simp [this]
 exact h (lo+i) (lo+j) _ _ 0x1 0x1 0x1 e1 e2
theorem HE {arr:Array Keyed} {p q r:Nat} (h1:p<=q) (h2:q<=r) (h3:r<=arr.size):arr.toList=arr.toList.take p++((arr.extract p q).toList++(arr.extract q r).toList)++arr.toList.drop r:=by
 have e1:=jq (arr:=arr) h1;have e2:=jq (arr:=arr) h2;rw [<-List.append_assoc,<-e1,<-e2,List.take_append_drop]
section
variable {M:Model} {A:Around} {E:Value->Shared->Prop} {s:Shared} {κ:SortKind} {key:Keyed->List Int} {P:Keyed->Prop}
theorem He {st LP:SortSt} {Q:PUnit->SortSt->Prop} (h:Q ⟨⟩ LP):wpS M A E s (set LP:StateT SortSt Sem PUnit) Q st:=by
 unfold wpS; rw [StateT.run_set]; exact Lb ⟨rfl,h⟩
theorem vV (hA:nN M A E s κ key P) {st:SortSt} {i na pw sb nb pw':Nat} {Q:Bool->SortSt->Prop} (hk:kindOf st=κ) (hP:∀x∈(arrOf st).toList,P x) (hf:failedOf st=none)
  (e1:(pendingOf st)[i]?=some (sa,na,pw)) (e2:(pendingOf st)[i+1]?=some (sb,nb,pw')) (hsb:sb=sa+na) (h1:0<na) (h2:0<nb) (hz:sb+nb<=(arrOf st).size)
  (S1:eZ key (arrOf st) sa sb) (S2:eZ key (arrOf st) sb (sb+nb))
  (h:∀F',kindOf F'=κ->failedOf F'=none->(arrOf F').Perm (arrOf st)->(∀j,(j<sa\/sb+nb<=j)->(arrOf F')[j]?=(arrOf st)[j]?)->eZ key (arrOf F') sa (sb+nb) ->
   pendingOf F'=((pendingOf st).setIfInBounds i (sa,na+nb,pw)).eraseIdxIfInBounds (i+1)->Q true F'):wpS M A E s (mergeAt' i) Q st:=by
 refine wpS_bind (wpS_get ?_);rw [e1,e2];dsimp only;have Z:=hz;obtain ⟨b0,eb0,mb0⟩:=c9 (arr:=arrOf st) (i:=sb) 0x1;refine wpS_bind (He ?_);refine wpS_bind (aW eb0 ?_);have hza:sa+na<=(arrOf st).size:=by lia
 refine wpS_bind (kS hA hk (hP _ mb0) hza hP (by rw [<-hsb]; exact S1) h1 fun k k1 k2 k3=>?_);dsimp only;by_cases c1:(na-k==0)=true
 ·rw [if_pos c1];have c1':na-k=0:=by simpa using c1
  refine wpS_pure (h _ hk hf (Array.Perm.refl _) (fun _ _=>rfl) (fun u v x y q1 q2 q3 ex ey=>?_) rfl);rcases Nat.lt_or_ge v sb with hv|hv
  ·exact S1 u v x y q1 q2 hv ex ey
  ·rcases Nat.lt_or_ge u sb with hu|hu
   ·exact (k2 u x q1 0x1 ex).trans (S2 sb v b0 y (K9 _) hv q3 eb0 ey)
   ·exact S2 u v x y hu q2 q3 ex ey
 rw [if_neg c1];have c1':na-k≠0:=by simpa using c1
 obtain ⟨al,eal,mal⟩:=c9 (arr:=arrOf st) (i:=sa+k+(na-k)-1) 0x1;have OW:(arrOf st)[sb-1]?=some al:=by rw [show sb-1=sa+k+(na-k)-1 by lia]; exact eal
 refine wpS_bind (aW eal ?_);refine wpS_bind (gx hA hk (hP _ mal) hz hP S2 0x1 fun n n1 n2 n3=>?_);dsimp only;by_cases c2:(n==0)=true
 ·rw [if_pos c2];have c2':n=0:=by simpa using c2
  refine wpS_pure (h _ hk hf (Array.Perm.refl _) (fun _ _=>rfl) (fun u v x y q1 q2 q3 ex ey=>?_) rfl);rcases Nat.lt_or_ge v sb with hv|hv
  ·exact S1 u v x y q1 q2 hv ex ey
  ·rcases Nat.lt_or_ge u sb with hu|hu
   ·exact (S1 u (sb-1) x al q1 0x1 0x1 ex OW).trans (n3 v y 0x1 q3 ey)
   ·exact S2 u v x y hu q2 q3 ex ey
 rw [if_neg c2];have c2':n≠0:=by simpa using c2
 have zx:((arrOf st).extract (sa+k) sb).size=sb-(sa+k):=by rw [Array.size_extract]; lia
 have zy:((arrOf st).extract sb (sb+n)).size=n:=by rw [Array.size_extract]; lia
 have px:∀x∈((arrOf st).extract (sa+k) sb).toList,P x:=fun x hx=>by
  obtain ⟨j,_,_,j3,ej⟩:=d7 hx;obtain ⟨_,rfl⟩:=Lu.mp ej;exact hP _ 0x4
 have py:∀x∈((arrOf st).extract sb (sb+n)).toList,P x:=fun x hx=>by
  obtain ⟨j,_,_,j3,ej⟩:=d7 hx;obtain ⟨_,rfl⟩:=Lu.mp ej;exact hP _ 0x4
 have sx:((arrOf st).extract (sa+k) sb).toList.Pairwise (Le key):=xy (fun u v x y q1 q2 q3=>S1 u v x y 0x1 q2 q3) 0x1;have sy:((arrOf st).extract sb (sb+n)).toList.Pairwise (Le key):=xy (fun u v x y q1 q2 q3=>S2 u v x y q1 q2 0x1) 0x1;have fst0:∀y,((arrOf st).extract sb (sb+n))[0]?=some y->∀x∈((arrOf st).extract (sa+k) sb).toList,Le key y x:=fun y ey x hx=>by
  rw [Array.getElem?_extract,if_pos 0x1] at ey;have:y=b0:=by
   have e:(arrOf st)[sb+0]?=some y:=ey;rw [Nat.add_zero,eb0] at e; cases e; rfl
  subst this;obtain ⟨j,j1,j2,j3,ej⟩:=d7 hx;exact Le.of_lt (k3 j x j1 0x1 ej)
 have lst0:∀z,((arrOf st).extract (sa+k) sb)[((arrOf st).extract (sa+k) sb).size-1]?=some z->∀y∈((arrOf st).extract sb (sb+n)).toList,Le key y z:=fun z ez y hy=>by
  rw [zx,Array.getElem?_extract,if_pos 0x1,show sa+k+(sb-(sa+k)-1)=sb-1 by lia,OW] at ez;cases ez;obtain ⟨j,j1,j2,j3,ej⟩:=d7 hy;exact Le.of_lt (n2 j y j1 j2 ej)
 have fin:∀(r:Array Keyed) (LI:SortSt),Sm st LI\/True->kindOf LI=κ->failedOf LI=none->arrOf LI=arrOf st->pendingOf LI=((pendingOf st).setIfInBounds i (sa,na+nb,pw)).eraseIdxIfInBounds (i+1) ->
   n8 key ((arrOf st).extract (sa+k) sb).toList ((arrOf st).extract sb (sb+n)).toList r.toList ->
   Q (failedOf LI).isNone (setArr LI (r.toList.zipIdx.foldl (fun a (x:Keyed×Nat)=>match x with|(p,j)=>a.setIfInBounds (sa+k+j) p) (arrOf LI))):=fun r LI _ K1 F1 A1 P1 hr=>by
  rw [F1];have zr:r.toList.length=sb+n-(sa+k):=by
   have:=hr.1.length_eq;rw [List.length_append,Array.length_toList,Array.length_toList,Array.length_toList,zx,zy] at this;rw [Array.length_toList]; lia
  have at_:∀j,(r.toList.zipIdx.foldl (fun a (x:Keyed×Nat)=>match x with|(p,j)=>a.setIfInBounds (sa+k+j) p) (arrOf st))[j]?=if sa+k<=j/\j<sb+n then r.toList[j-(sa+k)]? else (arrOf st)[j]?:=fun j=>by
   have:=Ep (l:=r.toList) (sa:=sa+k) (k:=j) 0 (arrOf st) 0x1;rw [this,zr];by_cases hj:sa+k<=j/\j<sb+n
   ·rw [if_pos 0x1,if_pos hj,Nat.sub_zero]
   ·rw [if_neg 0x1,if_neg hj]
  have zo:=yH (l:=r.toList) (sa:=sa+k) 0 (arrOf st);refine h _ K1 F1 ?_ (fun j hj=>?_) (fun u v x y q1 q2 q3 ex ey=>?_) P1
  ·show (r.toList.zipIdx.foldl _ (arrOf LI)).Perm (arrOf st);rw [A1];refine Array.perm_iff_toList_perm.mpr ?_;have e:(r.toList.zipIdx.foldl (fun a (x:Keyed×Nat)=>match x with|(p,j)=>a.setIfInBounds (sa+k+j) p) (arrOf st)).toList=(arrOf st).toList.take (sa+k)++r.toList++(arrOf st).toList.drop (sb+n):=by
    apply List.ext_getElem?;intro j;rw [Array.getElem?_toList,at_ j,List.getElem?_append,List.getElem?_append];have zt:((arrOf st).toList.take (sa+k)).length=sa+k:=by rw [List.length_take,Array.length_toList]; lia
    rw [List.length_append,zt,zr];by_cases hj:sa+k<=j/\j<sb+n
    ·rw [if_pos hj,if_pos 0x1,if_neg 0x1]
    ·rw [if_neg hj];by_cases hj2:j<sa+k
     ·rw [if_pos 0x1,if_pos hj2,List.getElem?_take,if_pos hj2,Array.getElem?_toList]
     ·rw [if_neg 0x1,List.getElem?_drop,Array.getElem?_toList];congr 1; lia
   rw [e]
   conv=>rhs; rw [HE (arr:=arrOf st) (p:=sa+k) (q:=sb) (r:=sb+n) 0x1 0x1 0x1]
   exact (hr.1.append_left _).append_right _
  ·show (r.toList.zipIdx.foldl _ (arrOf LI))[j]?=_;rw [A1,at_ j,if_neg 0x1]
  ·
   have N2:(r.toList.zipIdx.foldl _ (arrOf LI))[u]?=some x:=ex;have NC:(r.toList.zipIdx.foldl _ (arrOf LI))[v]?=some y:=ey;rw [A1,at_ u] at N2;rw [A1,at_ v] at NC;have Oy:∀{j:Nat} {z:Keyed},r.toList[j]?=some z->∃t,sa+k<=t/\t<sb+n/\(arrOf st)[t]?=some z:=fun {j z} ez=>by
    have mz:z∈r.toList:=List.mem_of_getElem? ez;rcases Lk.mp (hr.1.mem_iff.mp mz) with q|q
    ·obtain ⟨t,t1,t2,t3,et⟩:=d7 q; exact ⟨t,t1,0x1,et⟩
    ·obtain ⟨t,t1,t2,t3,et⟩:=d7 q; exact ⟨t,0x1,t2,et⟩
   have lowA:∀{u t:Nat} {x z:Keyed},sa<=u->u<sa+k->u<=t->t<sb+nb->(arrOf st)[u]?=some x->(arrOf st)[t]?=some z->Le key x z:=fun {u t x z} q1 q2 q3 q4 ex ez=>by
    rcases Nat.lt_or_ge t sb with ht|ht
    ·exact S1 u t x z q1 q3 ht ex ez
    ·exact (k2 u x q1 q2 ex).trans (S2 sb t b0 z (K9 _) ht q4 eb0 ez)
   have Ol:∀{u t:Nat} {x z:Keyed},sa<=u->u<=t->sb+n<=t->t<sb+nb->(arrOf st)[u]?=some x->(arrOf st)[t]?=some z->Le key x z:=fun {u t x z} q1 q2 q3 q4 ex ez=>by
    rcases Nat.lt_or_ge u sb with hu|hu
    ·exact (S1 u (sb-1) x al q1 0x1 0x1 ex OW).trans (n3 t z q3 q4 ez)
    ·exact S2 u t x z hu q2 q4 ex ez
   by_cases cu:sa+k<=u/\u<sb+n
   ·rw [if_pos cu] at N2;by_cases cv:sa+k<=v/\v<sb+n
    ·rw [if_pos cv] at NC;have hs:=hr.2;rcases Nat.lt_or_ge u v with huv|huv
     ·obtain ⟨hu',rfl⟩:=Lp.mp N2;obtain ⟨NI,rfl⟩:=Lp.mp NC;exact List.pairwise_iff_getElem.mp hs _ _ hu' NI 0x1
     ·have:u=v:=by lia
      subst this;rw [N2] at NC; cases NC; exact Le.refl _
    ·rw [if_neg cv] at NC;obtain ⟨t,t1,t2,et⟩:=Oy N2;exact Ol 0x1 0x1 0x1 q3 et NC
   ·rw [if_neg cu] at N2;by_cases cv:sa+k<=v/\v<sb+n
    ·rw [if_pos cv] at NC;obtain ⟨t,t1,t2,et⟩:=Oy NC;exact lowA q1 0x1 0x1 0x1 N2 et
    ·rw [if_neg cv] at NC;rcases Nat.lt_or_ge u (sa+k) with hu|hu
     ·exact lowA q1 hu q2 q3 N2 NC
     ·exact Ol q1 q2 0x1 q3 N2 NC
 have zx0:0<((arrOf st).extract (sa+k) sb).size:=by lia
 have zy0:0<((arrOf st).extract sb (sb+n)).size:=by lia
 by_cases c3:na-k<=n
 ·rw [if_pos c3];refine wpS_bind (vC hA hk px py zx0 zy0 sx sy fst0 lst0 fun r LI hS hr=>?_);refine wpS_bind (wpS_modify (wpS_bind (wpS_get (wpS_pure ?_))));exact fin r LI (.inr trivial) (hS.kind.trans hk) (hS.failed.trans hf) hS.arr hS.pend hr
 ·rw [if_neg c3];refine wpS_bind (v7 hA hk px py zx0 zy0 sx sy fst0 lst0 fun r LI hS hr=>?_);refine wpS_bind (wpS_modify (wpS_bind (wpS_get (wpS_pure ?_))));exact fin r LI (.inr trivial) (hS.kind.trans hk) (hS.failed.trans hf) hS.arr hS.pend hr
end
abbrev Pn:=Nat×Nat×Nat
def bM:List Pn->Nat->Nat->Prop
 |[],lo,hi=>lo=hi
 |(s,n,_)::r,lo,hi=>s=lo/\0<n/\bM r (lo+n) hi
theorem bM.le:∀{l:List Pn} {lo hi:Nat},bM l lo hi->lo<=hi
 |[],_,_,h=>LF h
 |(_,n,_)::_,_,_,h=>Lw (Nat.le_add_right _ n) (bM.le h.2.2)
theorem bM.len:∀{l:List Pn} {lo hi:Nat},bM l lo hi->lo+l.length<=hi
 |[],_,_,h=>LF h
 |(_,n,_)::r,lo,hi,h=>by
  have:=bM.len h.2.2;have:=h.2.1;simp only [List.length_cons]; lia
theorem bM.split:∀{l r:List Pn} {lo hi:Nat},bM (l++r) lo hi->∃m,bM l lo m/\bM r m hi
 |[],_,lo,_,h=>⟨lo,rfl,h⟩
 |(s,n,p)::l,r,lo,hi,h=>by
  obtain ⟨m,h1,h2⟩:=bM.split (l:=l) h.2.2;exact ⟨m,⟨h.1,h.2.1,h1⟩,h2⟩
theorem bM.app:∀{l r:List Pn} {lo m hi:Nat},bM l lo m->bM r m hi->bM (l++r) lo hi
 |[],_,_,_,_,h1,h2=>by cases h1; exact h2
 |(s,n,p)::l,r,lo,m,hi,h1,h2=>⟨h1.1,h1.2.1,bM.app h1.2.2 h2⟩
theorem bM.mem:∀{l:List Pn} {lo hi:Nat},bM l lo hi->∀p∈l,lo<=p.1/\0<p.2.1/\p.1+p.2.1<=hi
 |[],_,_,_,_,hp=>nomatch hp
 |(s,n,q)::r,lo,hi,h,p,hp=>by
  rcases Lj.mp hp with e|e
  ·subst e;have:=bM.le h.2.2;exact ⟨LF h.1.symm,h.2.1,by show s+n<=hi; rw [h.1]; exact this⟩
  ·have:=bM.mem h.2.2 p e;exact ⟨0x1,this.2.1,this.2.2⟩
structure RnS (key:Keyed->List Int) (κ:SortKind) (a₀:Array Keyed) (lo:Nat) (st:SortSt):Prop where
 kind:kindOf st=κ
 failed:failedOf st=none
 perm:(arrOf st).Perm a₀
 chain:bM (pendingOf st).toList 0 lo
 segs:∀p∈(pendingOf st).toList,eZ key (arrOf st) p.1 (p.1+p.2.1)
section
variable {M:Model} {A:Around} {E:Value->Shared->Prop} {s:Shared} {κ:SortKind} {key:Keyed->List Int} {P:Keyed->Prop} {a₀:Array Keyed}
theorem RnS.size {lo:Nat} {st:SortSt} (h:RnS key κ a₀ lo st):(arrOf st).size=a₀.size:=h.perm.size_eq
variable {st:SortSt}
theorem RnS.allP (h:RnS key κ a₀ lo st) (hP:∀x∈a₀.toList,P x):∀x∈(arrOf st).toList,P x:=fun x hx=>hP x ((Array.perm_iff_toList_perm.mp h.perm).mem_iff.mp hx)
variable {i:Nat}
theorem BA {l:List Pn} (h:i+1<l.length):∃pre a b post,l=pre++a::b::post/\pre.length=i:=by
 refine ⟨l.take i,l[i],l[i+1],l.drop (i+2),?_,by rw [List.length_take]; lia⟩;rw [<-List.drop_eq_getElem_cons,<-List.drop_eq_getElem_cons,List.take_append_drop]
theorem kZ (hA:nN M A E s κ key P) (hP:∀x∈a₀.toList,P x) {Q:Bool->SortSt->Prop} (hR:RnS key κ a₀ lo st) (Nb:lo<=a₀.size) (hi:i+1<(pendingOf st).size)
  (h:∀F',RnS key κ a₀ lo F'->(pendingOf F').size+1=(pendingOf st).size->(∀j,lo<=j->(arrOf F')[j]?=(arrOf st)[j]?)->Q true F'):wpS M A E s (mergeAt' i) Q st:=by
 obtain ⟨pre,⟨sa,na,pa⟩,⟨sb,nb,pb⟩,post,el,hl⟩:=BA (l:=(pendingOf st).toList) (i:=i) (by simpa using hi);have hc:=hR.chain;rw [el] at hc;obtain ⟨m,c1,c2⟩:=bM.split hc;obtain ⟨rfl,na0,rfl,nb0,c3⟩:=c2;have hle:=bM.le c3;have e1:(pendingOf st)[i]?=some (sa,na,pa):=by rw [<-Array.getElem?_toList,el,<-hl]; simp
 have e2:(pendingOf st)[i+1]?=some (sa+na,nb,pb):=by rw [<-Array.getElem?_toList,el,<-hl]; simp
 have Z:=hR.size;have s1:=hR.segs (sa,na,pa) (by rw [el]; simp);have s2:=hR.segs (sa+na,nb,pb) (by rw [el]; simp);refine vV hA hR.kind (hR.allP hP) hR.failed e1 e2 rfl na0 nb0 0x1 s1 s2 fun F' k' f' p' same seg pe=>?_;have el':(pendingOf F').toList=pre++(sa,na+nb,pa)::post:=by
  rw [pe,Array.toList_eraseIdxIfInBounds,Array.toList_setIfInBounds,el,<-hl];simp [List.set_append,List.eraseIdx_append];intro hc; lia
 refine h F' ⟨k',f',p'.trans hR.perm,?_,fun p hp=>?_⟩ ?_ fun j hj=>same j (.inr 0x1)
 ·rw [el'];exact bM.app c1 ⟨rfl,0x1,by rw [<-Nat.add_assoc]; exact c3⟩
 ·rw [el'] at hp;rcases Lk.mp hp with q|q
  ·have b1:=bM.mem c1 p q;exact (hR.segs p (by rw [el]; exact K8 _ q)).congr fun j q1 q2=>same j (.inl 0x1)
  ·rcases Lj.mp q with q|q
   ·subst q;show eZ key _ sa (sa+(na+nb));rw [<-Nat.add_assoc]; exact seg
   ·have b1:=bM.mem c3 p q;exact (hR.segs p (by rw [el]; exact K7 _ (K3 _ (K3 _ q)))).congr fun j q1 q2=>same j (.inr 0x1)
 ·have z1:(pendingOf F').size=(pre++(sa,na+nb,pa)::post).length:=by rw [<-el',Array.length_toList]
  have z2:(pendingOf st).size=(pre++(sa,na,pa)::(sa+na,nb,pb)::post).length:=by rw [<-el,Array.length_toList]
  rw [z1,z2]; simp; lia
theorem q0 {f:Pn->Pn} (hf:∀p,(f p).1=p.1/\(f p).2.1=p.2.1):∀{l:List Pn} {i lo hi:Nat},bM l lo hi->bM (l.modify i f) lo hi
 |[],i,_,_,h=>by cases i <;> exact h
 |(s,n,p)::r,0,lo,hi,h=>by
  have q:=hf (s,n,p);show bM (f (s,n,p)::r) lo hi
  match e:f (s,n,p),q with
  |(s',n',p'),q=>exact ⟨q.1.trans h.1,by rw [show n'=n from q.2]; exact h.2.1,by rw [show n'=n from q.2]; exact h.2.2⟩
 |(s,n,p)::r,i+1,lo,hi,h=>⟨h.1,h.2.1,q0 hf h.2.2⟩
theorem xH {f:Pn->Pn} (hf:∀p,(f p).1=p.1/\(f p).2.1=p.2.1):∀{l:List Pn} {i:Nat} {p:Pn},p∈l.modify i f->∃q∈l,p.1=q.1/\p.2.1=q.2.1
 |[],i,p,h=>by cases i <;> cases h
 |a::r,0,p,h=>by
  rcases Lj.mp (show p∈f a::r from h) with e|e
  ·exact ⟨a,K5,by rw [e]; exact hf a⟩
  ·exact ⟨p,K3 _ e,rfl,rfl⟩
 |a::r,i+1,p,h=>by
  rcases Lj.mp (show p∈a::r.modify i f from h) with e|e
  ·exact ⟨a,K5,by rw [e]; exact ⟨rfl,rfl⟩⟩
  ·obtain ⟨q,hq,e1⟩:=xH hf e;exact ⟨q,K3 _ hq,e1⟩
theorem RnS.pw {f:Pn->Pn} (h:RnS key κ a₀ lo st) (hf:∀p,(f p).1=p.1/\(f p).2.1=p.2.1):RnS key κ a₀ lo (setPending st ((pendingOf st).modify i f)):=
 ⟨h.kind,h.failed,h.perm,by
  show bM ((pendingOf st).modify i f).toList 0 lo;rw [Array.toList_modify];exact q0 hf h.chain,fun p hp=>by
  have M8:p∈((pendingOf st).modify i f).toList:=hp;rw [Array.toList_modify] at M8;obtain ⟨q,hq,e1,e2⟩:=xH hf M8;rw [e1,e2];exact h.segs q hq⟩
theorem vd (hA:nN M A E s κ key P) {Q:Unit->SortSt->Prop} (hk:kindOf st=κ) (hf:failedOf st=none) (hp:pendingOf st=#[]) (hP:∀x∈(arrOf st).toList,P x)
  (h:∀F',failedOf F'=none->(arrOf F').Perm (arrOf st)->(arrOf F').toList.Pairwise (Le key)->Q () F'):wpS M A E s sortRuns' Q st:=by
 obtain ⟨a₀,ea⟩:∃x,x=arrOf st:=⟨_,rfl⟩;have N5:∀x∈a₀.toList,P x:=by rw [ea]; exact hP
 refine wpS_bind (wpS_get ?_);dsimp only;rw [show (arrOf st).size=a₀.size by rw [ea]];obtain ⟨mr,emr⟩:∃x,x=minRun' a₀.size a₀.size 0:=⟨_,rfl⟩;rw [show (sortPriv% PySem.Builtin.minRun) a₀.size a₀.size 0=mr from emr.symm];refine wpS_bind (wpS_mono (wpS_forRange
  (I:=fun x c F'=>∃lo,c=(none,lo)/\RnS key κ a₀ lo F'/\lo<=a₀.size/\min x a₀.size<=lo)
  (Q:=fun c F'=>c=(none,a₀.size)/\RnS key κ a₀ a₀.size F') ?step ?fin ⟨0,rfl,⟨hk,hf,by rw [ea],by rw [hp]; exact rfl,by rw [hp]; exact fun _ hx=>nomatch hx⟩,Lv _,0x1⟩) ?post)
 case fin=>
  rintro c F' ⟨lo,rfl,hR,h1,h2⟩;have:lo=a₀.size:=by lia
  subst this;exact ⟨rfl,hR⟩
 case step=>
  rintro x c LI _ hx ⟨lo,rfl,hR,hlz,h2⟩;dsimp only;by_cases Nb:lo>=a₀.size
  ·rw [if_pos Nb];have:lo=a₀.size:=by lia
   subst this;exact wpS_pure ⟨rfl,hR⟩
  rw [if_neg Nb];have Z1:=hR.size;refine wpS_bind (vg hA hR.kind (hR.allP N5) 0x1 0x1 fun n LP n1 n2 F2 S2=>?_);dsimp only;have R2:RnS key κ a₀ lo LP:=⟨F2.kind.trans hR.kind,F2.failed.trans hR.failed,F2.perm.trans hR.perm,by rw [F2.pend]; exact hR.chain,fun p hp=>by
   rw [F2.pend] at hp;have b1:=bM.mem hR.chain p hp;exact (hR.segs p hp).congr fun j q1 q2=>F2.same j (.inl 0x1)⟩
  by_cases hn:n<mr
  ·rw [if_pos hn];refine wpS_bind (wpS_lift (wpAny_rule ⟨rfl,?_⟩));have Z2:=R2.size;refine wpS_bind (qC hA R2.kind (R2.allP N5) n1 0x1 0x1 S2 fun Mf F3 S3=>?_);rw [if_neg 0x4];have R3:RnS key κ a₀ lo Mf:=⟨F3.kind.trans R2.kind,F3.failed.trans R2.failed,F3.perm.trans R2.perm,by rw [F3.pend]; exact R2.chain,fun p hp=>by
    rw [F3.pend] at hp;have b1:=bM.mem R2.chain p hp;exact (R2.segs p hp).congr fun j q1 q2=>F3.same j (.inl 0x1)⟩
   have nf1:1<=min (a₀.size-lo) mr:=by lia
   have nf2:min (a₀.size-lo) mr<=a₀.size-lo:=by lia
   clear S2 F2 F3 hn n1 n2;generalize min (a₀.size-lo) (mr)=m at *;have NR:∀LU,RnS key κ a₀ lo LU->eZ key (arrOf LU) lo (lo+m)->RnS key κ a₀ (lo+m) (setPending LU ((pendingOf LU).push (lo,m,0))):=fun LU R4 S4=>
    ⟨R4.kind,R4.failed,R4.perm,by
     show bM ((pendingOf LU).push (lo,m,0)).toList 0 (lo+m);rw [Array.toList_push];exact bM.app R4.chain ⟨rfl,nf1,rfl⟩,fun p hp=>by
     have M8:p∈((pendingOf LU).push (lo,m,0)).toList:=hp;rw [Array.toList_push] at M8;rcases Lk.mp M8 with q|q
     ·exact R4.segs p q
     ·rw [Lm.mp q]; exact S4⟩
   refine wpS_bind (wpS_get ?_);cases eb:(pendingOf Mf).back? with
   |none=>
    dsimp only;exact wpS_bind (wpS_modify (wpS_pure ⟨_,rfl,NR Mf R3 S3,0x1,0x1⟩))
   |some pb=>
    obtain ⟨s1,n1,p1⟩:=pb;dsimp only;refine wpS_bind (wpS_mono (wpS_forRange
     (I:=fun _ c F'=>c=(none,())/\RnS key κ a₀ lo F'/\eZ key (arrOf F') lo (lo+m))
     (Q:=fun c F'=>c=(none,())/\RnS key κ a₀ lo F'/\eZ key (arrOf F') lo (lo+m)) ?_ (fun _ _ q=>q) ⟨rfl,R3,S3⟩) ?_)
    ·rintro y c LU _ hy ⟨rfl,R4,S4⟩;refine wpS_bind (wpS_get ?_)
     try dsimp only
     by_cases h1:(pendingOf LU).size>1
     ·rw [if_pos h1];have LV:(pendingOf LU).size-2<(pendingOf LU).size:=by lia
      rw [getElem?_pos (pendingOf LU) _ LV];have OL:(pendingOf LU).size-2+1<(pendingOf LU).size:=by lia
      dsimp only;split
      ·exact wpS_pure ⟨rfl,R4,S4⟩
      ·refine wpS_bind (kZ hA N5 R4 hlz OL fun Nz R5 _ s5=>?_);rw [if_neg 0x4];exact wpS_pure ⟨rfl,R5,S4.congr fun j q1 _=>s5 j q1⟩
     ·rw [if_neg h1];exact wpS_pure ⟨rfl,R4,S4⟩
    ·rintro c LU ⟨rfl,R4,S4⟩
     try dsimp only
     refine wpS_bind (wpS_modify (wpS_bind (wpS_modify (wpS_pure ⟨_,rfl,NR _ ?_ S4,0x1,0x1⟩))));exact R4.pw fun _=>⟨rfl,rfl⟩
  ·rw [if_neg hn];obtain ⟨Mf,est⟩:∃x,x=LP:=⟨_,rfl⟩;rw [<-est] at R2 S2 ⊢;have R3:=R2;have S3:=S2;have nf1:=n1;have nf2:=n2;clear S2 F2 hn n1 n2 R2;generalize n=m at *;have NR:∀LU,RnS key κ a₀ lo LU->eZ key (arrOf LU) lo (lo+m)->RnS key κ a₀ (lo+m) (setPending LU ((pendingOf LU).push (lo,m,0))):=fun LU R4 S4=>
    ⟨R4.kind,R4.failed,R4.perm,by
     show bM ((pendingOf LU).push (lo,m,0)).toList 0 (lo+m);rw [Array.toList_push];exact bM.app R4.chain ⟨rfl,nf1,rfl⟩,fun p hp=>by
     have M8:p∈((pendingOf LU).push (lo,m,0)).toList:=hp;rw [Array.toList_push] at M8;rcases Lk.mp M8 with q|q
     ·exact R4.segs p q
     ·rw [Lm.mp q]; exact S4⟩
   refine wpS_bind (wpS_get ?_);cases eb:(pendingOf Mf).back? with
   |none=>
    dsimp only;exact wpS_bind (wpS_modify (wpS_pure ⟨_,rfl,NR Mf R3 S3,0x1,0x1⟩))
   |some pb=>
    obtain ⟨s1,n1,p1⟩:=pb;dsimp only;refine wpS_bind (wpS_mono (wpS_forRange
     (I:=fun _ c F'=>c=(none,())/\RnS key κ a₀ lo F'/\eZ key (arrOf F') lo (lo+m))
     (Q:=fun c F'=>c=(none,())/\RnS key κ a₀ lo F'/\eZ key (arrOf F') lo (lo+m)) ?_ (fun _ _ q=>q) ⟨rfl,R3,S3⟩) ?_)
    ·rintro y c LU _ hy ⟨rfl,R4,S4⟩;refine wpS_bind (wpS_get ?_)
     try dsimp only
     by_cases h1:(pendingOf LU).size>1
     ·rw [if_pos h1];have LV:(pendingOf LU).size-2<(pendingOf LU).size:=by lia
      rw [getElem?_pos (pendingOf LU) _ LV];have OL:(pendingOf LU).size-2+1<(pendingOf LU).size:=by lia
      dsimp only;split
      ·exact wpS_pure ⟨rfl,R4,S4⟩
      ·refine wpS_bind (kZ hA N5 R4 hlz OL fun Nz R5 _ s5=>?_);rw [if_neg 0x4];exact wpS_pure ⟨rfl,R5,S4.congr fun j q1 _=>s5 j q1⟩
     ·rw [if_neg h1];exact wpS_pure ⟨rfl,R4,S4⟩
    ·rintro c LU ⟨rfl,R4,S4⟩
     try dsimp only
     refine wpS_bind (wpS_modify (wpS_bind (wpS_modify (wpS_pure ⟨_,rfl,NR _ ?_ S4,0x1,0x1⟩))));exact R4.pw fun _=>⟨rfl,rfl⟩
 case post=>
  rintro c LI ⟨rfl,R1⟩;dsimp only;refine wpS_bind (wpS_mono (wpS_forRange
   (I:=fun x c F'=>c=(none,())/\RnS key κ a₀ a₀.size F'/\(pendingOf F').size<=max 1 (a₀.size-x))
   (Q:=fun c F'=>c=(none,())/\RnS key κ a₀ a₀.size F'/\(pendingOf F').size<=1) ?_ ?_ ⟨rfl,R1,?_⟩) ?_)
  ·rintro x c LP _ hx ⟨rfl,R2,hsz⟩;refine wpS_bind (wpS_get ?_)
   try dsimp only
   by_cases h1:(pendingOf LP).size<=1
   ·rw [if_pos h1]; exact wpS_pure ⟨rfl,R2,h1⟩
   rw [if_neg h1];have t:∀(c:Prop) [Decidable c],(if c then (pendingOf LP).size-2-1 else (pendingOf LP).size-2)+1<(pendingOf LP).size:=fun c _=>by
    split <;> lia
   refine wpS_bind (kZ hA N5 R2 (K9 _) (t _) fun Mf R3 z3 _=>?_)
   ·rw [if_neg 0x4];exact wpS_pure ⟨rfl,R3,0x1⟩
  ·rintro c LP ⟨rfl,R2,hsz⟩;exact ⟨rfl,R2,0x1⟩
  ·have:=bM.len R1.chain;rw [Array.length_toList] at this;lia
  ·rintro c LP ⟨rfl,R2,hsz⟩;dsimp only;refine wpS_pure (h LP R2.failed (by rw [<-ea]; exact R2.perm) (jx.mpr ?_));have Z:=R2.size;have hc:=R2.chain;have hs:=R2.segs
   match e:(pendingOf LP).toList,hc,hs with
   |[],hc,_=>
    have:0=a₀.size:=hc;intro i j x y _ _ hj;lia
   |[(s1,n1,p1)],hc,hs=>
    obtain ⟨rfl,_,hn⟩:=hc;have Oa:0+n1=a₀.size:=hn;have:=hs _ K5;rw [Z,<-Oa];exact this
   |_::_::_,_,_=>
    have:(pendingOf LP).toList.length<=1:=by rw [Array.length_toList]; exact hsz
    rw [e] at this;simp at this
end
noncomputable def mT (l:List Nat):List Int:=l.map (fun n:Nat=>(n:Int))++[-1]
mutual
noncomputable def lp:PyData->List Int
 |.int i=>[i]
 |.str x=>mT x.cps.toList
 |.tuple xs=>iA xs
 |_=>[]
noncomputable def iA:List PyData->List Int
 |[]=>[0]
 |x::r=>1::(lp x++iA r)
end
mutual
noncomputable def hZ:PyData->Bool
 |.int _=>true
 |.str _=>true
 |.tuple xs=>zi xs
 |_=>false
noncomputable def zi:List PyData->Bool
 |[]=>true
 |x::r=>hZ x&&zi r
end
theorem bC (x y:Int) (a b:List Int):ll (x::a) (y::b)=if x=y then ll a b else decide (x<y):=HT.lexLt_cons ..
theorem xf:∀(a b:List Nat) (r1 r2:List Int),(a=b/\decide (a<b)=false)\/(a≠b/\ll (mT a++r1) (mT b++r2)=decide (a<b)/\ll (mT b++r2) (mT a++r1)=!decide (a<b))
 |[],[],_,_=>.inl ⟨rfl,0x4⟩
 |[],y::b,r1,r2=>.inr ⟨0x4,(by
  show ll (-1::r1) ((y:Int)::(mT b++r2))=_/\ll ((y:Int)::(mT b++r2)) (-1::r1)=_;rw [bC,bC,if_neg 0x1,if_neg 0x1];constructor <;> simp <;> lia)⟩
 |x::a,[],r1,r2=>.inr ⟨0x4,(by
  show ll ((x:Int)::(mT a++r1)) (-1::r2)=_/\ll (-1::r2) ((x:Int)::(mT a++r1))=_;rw [bC,bC,if_neg 0x1,if_neg 0x1];constructor <;> simp <;> lia)⟩
 |x::a,y::b,r1,r2=>by
  have e1:mT (x::a)++r1=(x:Int)::(mT a++r1):=rfl;have e2:mT (y::b)++r2=(y:Int)::(mT b++r2):=rfl;rw [e1,e2,bC,bC];by_cases h:x=y
  ·subst h;rw [if_pos rfl,if_pos rfl];have ed:decide (x::a<x::b)=decide (a<b):=by
    simp [List.cons_lt_cons_iff]
   rw [ed];rcases xf a b r1 r2 with ⟨q,q2⟩|q
   ·exact .inl ⟨by rw [q],q2⟩
   ·exact .inr ⟨fun e=>q.1 (by cases e; rfl),q.2⟩
  ·rw [if_neg 0x1,if_neg 0x1];refine .inr ⟨fun e=>h (by cases e; rfl),?_⟩;have ed:decide (x::a<y::b)=decide (x<y):=by
    simp [List.cons_lt_cons_iff,h]
   rw [ed];constructor
   ·simp
   ·by_cases q:x<y
    ·simp [q]; lia
    ·simp [q]; lia
mutual
theorem Ah:∀(x y:PyData),hZ x=true->hZ y=true->PyData.eqv x y=true->x=y
 |.int i,.int j,_,_,h=>by
  unfold PyData.eqv at h;rw [eq_of_beq h]
 |.str x,.str y,_,_,h=>by
  unfold PyData.eqv at h;rw [eq_of_beq h]
 |.tuple xs,.tuple ys,h1,h2,h=>by
  unfold PyData.eqv at h;unfold hZ at h1 h2;rw [rM xs ys h1 h2 h]
 |.int _,.str _,_,_,h=>by unfold PyData.eqv at h; cases h
 |.int _,.tuple _,_,_,h=>by unfold PyData.eqv at h; cases h
 |.str _,.int _,_,_,h=>by unfold PyData.eqv at h; cases h
 |.str _,.tuple _,_,_,h=>by unfold PyData.eqv at h; cases h
 |.tuple _,.int _,_,_,h=>by unfold PyData.eqv at h; cases h
 |.tuple _,.str _,_,_,h=>by unfold PyData.eqv at h; cases h
 |.none,_,h,_,_=>by unfold hZ at h; cases h
 |.bool _,_,h,_,_=>by unfold hZ at h; cases h
 |.list _,_,h,_,_=>by unfold hZ at h; cases h
 |.dict _,_,h,_,_=>by unfold hZ at h; cases h
 |_,.none,_,h,_=>by unfold hZ at h; cases h
 |_,.bool _,_,h,_=>by unfold hZ at h; cases h
 |_,.list _,_,h,_=>by unfold hZ at h; cases h
 |_,.dict _,_,h,_=>by unfold hZ at h; cases h
theorem rM:∀(xs ys:List PyData),zi xs=true->zi ys=true->PyData.eqvAll xs ys=true->xs=ys
 |[],[],_,_,_=>rfl
 |[],_::_,_,_,h=>by unfold PyData.eqvAll at h; cases h
 |_::_,[],_,_,h=>by unfold PyData.eqvAll at h; cases h
 |x::xs,y::ys,h1,h2,h=>by
  unfold PyData.eqvAll at h;unfold zi at h1 h2;rw [Bool.and_eq_true] at h h1 h2;rw [Ah x y h1.1 h2.1 h.1,rM xs ys h1.2 h2.2 h.2]
end
mutual
theorem vq:∀(x:PyData),hZ x=true->PyData.eqv x x=true
 |.int i,_=>by unfold PyData.eqv; exact beq_self_eq_true i
 |.str x,_=>by unfold PyData.eqv; exact beq_self_eq_true x
 |.tuple xs,h=>by unfold PyData.eqv; unfold hZ at h; exact nI xs h
 |.none,h=>by unfold hZ at h; cases h
 |.bool _,h=>by unfold hZ at h; cases h
 |.list _,h=>by unfold hZ at h; cases h
 |.dict _,h=>by unfold hZ at h; cases h
theorem nI:∀(xs:List PyData),zi xs=true->PyData.eqvAll xs xs=true
 |[],_=>by unfold PyData.eqvAll; rfl
 |x::r,h=>by
  unfold PyData.eqvAll;unfold zi at h;rw [Bool.and_eq_true] at h;rw [vq x h.1,nI r h.2]; rfl
end
mutual
theorem rZ:∀(x y:PyData) (b:Bool),hZ x=true->hZ y=true->cD true x y=some b->∀r1 r2:List Int,
  (x=y/\b=false)\/(x≠y/\ll (lp x++r1) (lp y++r2)=b/\ll (lp y++r2) (lp x++r1)=!b)
 |.int i,.int j,b,_,_,h,r1,r2=>by
  unfold cD cI at h;cases h;unfold lp;show _\/(_/\ll (i::r1) (j::r2)=_/\ll (j::r2) (i::r1)=_);rw [bC,bC];by_cases e:i=j
  ·subst e; exact .inl ⟨rfl,0x4⟩
  ·rw [if_neg e,if_neg (Ne.symm e)];refine .inr ⟨fun q=>e (by cases q; rfl),0x4,?_⟩;by_cases q:i<j
   ·simp [q]; lia
   ·simp [q]; lia
 |.str x,.str y,b,_,_,h,r1,r2=>by
  unfold cD cS at h;cases h;unfold lp;simp only [if_true];rcases xf x.cps.toList y.cps.toList r1 r2 with ⟨q1,q2⟩|q
  ·have:x=y:=by
    cases x; cases y
    congr 1;exact Array.toList_inj.mp q1
   subst this;exact .inl ⟨rfl,q2⟩
  ·exact .inr ⟨fun e=>q.1 (by cases e; rfl),q.2⟩
 |.tuple xs,.tuple ys,b,h1,h2,h,r1,r2=>by
  unfold cD at h;unfold hZ at h1 h2;unfold lp;rcases u0 xs ys b h1 h2 h r1 r2 with ⟨q1,q2⟩|⟨q1,q2⟩
  ·exact .inl ⟨by rw [q1],q2⟩
  ·exact .inr ⟨fun e=>q1 (by cases e; rfl),q2⟩
 |.int _,.str _,_,_,_,h,_,_=>by unfold cD at h; cases h
 |.int _,.tuple _,_,_,_,h,_,_=>by unfold cD at h; cases h
 |.str _,.int _,_,_,_,h,_,_=>by unfold cD at h; cases h
 |.str _,.tuple _,_,_,_,h,_,_=>by unfold cD at h; cases h
 |.tuple _,.int _,_,_,_,h,_,_=>by unfold cD at h; cases h
 |.tuple _,.str _,_,_,_,h,_,_=>by unfold cD at h; cases h
 |.none,_,_,h,_,_,_,_=>by unfold hZ at h; cases h
 |.bool _,_,_,h,_,_,_,_=>by unfold hZ at h; cases h
 |.list _,_,_,h,_,_,_,_=>by unfold hZ at h; cases h
 |.dict _,_,_,h,_,_,_,_=>by unfold hZ at h; cases h
 |_,.none,_,_,h,_,_,_=>by unfold hZ at h; cases h
 |_,.bool _,_,_,h,_,_,_=>by unfold hZ at h; cases h
 |_,.list _,_,_,h,_,_,_=>by unfold hZ at h; cases h
 |_,.dict _,_,_,h,_,_,_=>by unfold hZ at h; cases h
theorem u0:∀(xs ys:List PyData) (b:Bool),zi xs=true->zi ys=true->cL true xs ys=some b->∀r1 r2:List Int,
  (xs=ys/\b=false)\/(xs≠ys/\ll (iA xs++r1) (iA ys++r2)=b/\ll (iA ys++r2) (iA xs++r1)=!b)
 |[],[],b,_,_,h,_,_=>by unfold cL at h; cases h; exact .inl ⟨rfl,rfl⟩
 |[],y::ys,b,_,_,h,r1,r2=>by
  unfold cL at h; cases h
  refine .inr ⟨0x4,?_⟩;unfold iA;show ll (0::r1) (1::(lp y++iA ys++r2))=_/\ll (1::(lp y++iA ys++r2)) (0::r1)=_;rw [bC,bC];exact ⟨rfl,rfl⟩
 |x::xs,[],b,_,_,h,r1,r2=>by
  unfold cL at h; cases h
  refine .inr ⟨0x4,?_⟩;unfold iA;show ll (1::(lp x++iA xs++r1)) (0::r2)=_/\ll (0::r2) (1::(lp x++iA xs++r1))=_;rw [bC,bC];exact ⟨rfl,rfl⟩
 |x::xs,y::ys,b,h1,h2,h,r1,r2=>by
  unfold cL at h;unfold zi at h1 h2;rw [Bool.and_eq_true] at h1 h2;have e1:iA (x::xs)++r1=1::(lp x++(iA xs++r1)):=by rw [iA]; simp
  have e2:iA (y::ys)++r2=1::(lp y++(iA ys++r2)):=by rw [iA]; simp
  rw [e1,e2,bC,bC,if_pos rfl,if_pos rfl];by_cases e:PyData.eqv x y=true
  ·rw [if_pos e] at h;have exy:=Ah x y h1.1 h2.1 e;subst exy;have z:∀(l r1 r2:List Int),ll (l++r1) (l++r2)=ll r1 r2:=fun l r1 r2=>by
    induction l with
    |nil=>rfl
    |cons u l ih=>show ll (u::(l++r1)) (u::(l++r2))=_; rw [bC,if_pos rfl]; exact ih
   rw [z,z];rcases u0 xs ys b h1.2 h2.2 h r1 r2 with ⟨q1,q2⟩|⟨q1,q2⟩
   ·exact .inl ⟨by rw [q1],q2⟩
   ·exact .inr ⟨fun e=>q1 (by cases e; rfl),q2⟩
  ·rw [if_neg e] at h;rcases rZ x y b h1.1 h2.1 h (iA xs++r1) (iA ys++r2) with ⟨q1,q2⟩|⟨q1,q2⟩
   ·subst q1;exact absurd (vq x h1.1) e
   ·exact .inr ⟨fun e=>q1 (by cases e; rfl),q2⟩
end
theorem wy {x y:PyData} {b:Bool} (h1:hZ x=true) (h2:hZ y=true) (h:cD true x y=some b):ll (lp x) (lp y)=b:=by
 rcases rZ x y b h1 h2 h [] [] with ⟨q1,q2⟩|⟨_,q,_⟩
 ·rw [q1,q2]; exact eG _
 ·simpa using q
theorem EZ {x y:PyData} (h1:hZ x=true) (h2:hZ y=true) (h:(cD true x y).isSome=true) (e:lp x=lp y):x=y:=by
 obtain ⟨b,hb⟩:=Lq.mp h;rcases rZ x y b h1 h2 hb [] [] with ⟨q1,_⟩|⟨_,q1,q2⟩
 ·exact q1
 ·rw [e,eG] at q1;rw [e,eG,<-q1] at q2;cases q2
section
variable {prog:Program} {w:World} {A:Around} {E:Value->Shared->Prop} {s:Shared}
theorem BX (vs:List Value):vs.zip vs=vs.map fun v=>(v,v):=by
 induction vs with
 |nil=>rfl
 |cons v r ih=>rw [List.zip_cons_cons,ih]; rfl
theorem qp {a:Addr} {vs:List Value} {n:Nat} {P:PySem.Fin->Shared->Prop} {κ:SortKind} (ho:s.heap.get? a=some (seqObj "list" vs.toArray n)) (hz:vs.length<=10000)
  (hk:∀(s':Shared) (Q:SortKind->Shared->Prop) (E:Value->Shared->Prop),(∀b o,b≠a->s.heap.get? b=some o->s'.heap.get? b=some o)->2<=vs.length->Q κ s'->wpAny (model prog w) A (keyKind' vs.toArray) Q E s')
  (hc:∀(s':Shared) (u v:Value) (Q:Bool->Shared->Prop) (E:Value->Shared->Prop),(∀b o,b≠a->s.heap.get? b=some o->s'.heap.get? b=some o)->u∈vs->v∈vs->Q (ll (key (u,u)) (key (v,v))) s' ->
   wpAny (model prog w) A (keyLt' κ u v) Q E s')
  (h:∀out:List Value,out.Perm vs->out.Pairwise (fun u v=>ll (key (v,v)) (key (u,u))=false)->P (.done (.ret .none)) { s with heap:=sortedHeap s.heap a vs out.toArray }):wpAny (model prog w) A (Builtin.«list.sort» ⟨[.ref a],[]⟩) P E s:=by
 rw [list_sort_plain];have ha:a<s.heap.objs.size:=Lc ho;refine La (listItems_at ho rfl ?_);refine La (listUpdate_at ho rfl ?_ (by rw [List.size_toArray,sizeLine_eq]; lia) (Lv _));obtain ⟨c1,ho1⟩:∃c1,(s.heap.update a (Obj.mapSeq fun _=>#[])).get? a=some (seqObj "list" #[] c1):=⟨_,get?_update_seq ho (fun _=>#[])⟩;refine La (seqEpoch_at ho1 rfl ?_);refine La (wpAny_newTuple ?_ (by show vs.length<=_; rw [sizeLine_eq]; lia));refine La (wpAny_newList ?_ (Lv _));refine wpAny_holding ?_;have keep:∀b o,b≠a->s.heap.get? b=some o->(((s.heap.update a (Obj.mapSeq fun _=>#[])).push (seqObj "tuple" vs.toArray 0)).push (seqObj "list" #[] 0)).get? b=some o:=fun b o hb e=>
  K6 _ (K6 _ (by rw [Heap.get?_update_ne _ _ _ _ hb]; exact e))
 have ho3:(((s.heap.update a (Obj.mapSeq fun _=>#[])).push (seqObj "tuple" vs.toArray 0)).push (seqObj "list" #[] 0)).get? a=some (seqObj "list" #[] c1):=K6 _ (K6 _ ho1);show wpAny (model prog w) A _ P E { s with heap:=((s.heap.update a (Obj.mapSeq fun _=>#[])).push (seqObj "tuple" vs.toArray 0)).push (seqObj "list" #[] 0) };dsimp only;have hsz:vs.toArray.size=vs.length:=List.size_toArray ..;have ezl:(vs.toArray.zip vs.toArray).toList=vs.map fun v=>(v,v):=by rw [<-BX]; simp
 have fin:∀F':SortSt,(arrOf F').Perm (vs.toArray.zip vs.toArray)->(arrOf F').toList.Pairwise (Le key)->failedOf F'=none ->
   ∃out:List Value,(arrOf F').map (·.2)=out.toArray/\out.length=vs.length/\P (.done (.ret .none)) { s with heap:=sortedHeap s.heap a vs out.toArray }:=fun F' hp hs hf=>by
  have M8:(arrOf F').toList.Perm (vs.map fun v=>(v,v)):=by rw [<-ezl]; exact Array.perm_iff_toList_perm.mp hp
  have hpo:((arrOf F').toList.map (·.2)).Perm vs:=by
   have:=M8.map (·.2)
   rwa [List.map_map,show (vs.map ((fun p:Keyed=>p.2)∘fun v=>(v,v)))=vs from by rw [show ((fun p:Keyed=>p.2)∘fun v:Value=>(v,v))=id from rfl,List.map_id]] at this
  refine ⟨(arrOf F').toList.map (·.2),by apply Array.toList_inj.mp; simp,hpo.length_eq,h _ hpo ?_⟩;refine List.pairwise_map.mpr (hs.imp_of_mem fun {x y} hx hy hxy=>?_);obtain ⟨u,_,eu⟩:=Ll.mp (M8.mem_iff.mp hx);obtain ⟨v,_,ev⟩:=Ll.mp (M8.mem_iff.mp hy);subst eu; subst ev
  exact hxy
 by_cases h2:vs.length<2
 ·have NQ:vs.toArray.size<2:=by lia
  rw [if_pos NQ,if_pos NQ];refine La (Lb ?_);rw [StateT.run_pure];refine La (Lb ?_);dsimp only;obtain ⟨out,eo,zo,hP⟩:=fin (SortSt.mk' general' (vs.toArray.zip vs.toArray) #[] 7 none) (Array.Perm.refl _) (by
   show (vs.toArray.zip vs.toArray).toList.Pairwise (Le key);rw [ezl]
   match vs,h2 with
   |[],_=>exact List.Pairwise.nil
   |[v],_=>exact List.pairwise_singleton _ _
   |_::_::_,h=>simp at h; lia) rfl
  refine La (seqEpoch_at ho3 rfl ?_);rw [eo];refine La (listUpdate_at ho3 rfl ?_ (Lv _) (by rw [List.size_toArray,zo,sizeLine_eq]; lia));simp only [bne_self_eq_false,Bool.false_eq_true,if_false];exact Lb hP
 ·have NQ:¬vs.toArray.size<2:=by lia
  rw [if_neg NQ,if_neg NQ];refine La (hk _ _ _ keep 0x1 ?_);have asks:nN (model prog w) A E { s with heap:=((s.heap.update a (Obj.mapSeq fun _=>#[])).push (seqObj "tuple" vs.toArray 0)).push (seqObj "list" #[] 0) } κ key (fun x=>∃v∈vs,x=(v,v)):=fun x y st Q hkd ⟨u,hu,ex⟩ ⟨v,hv,ey⟩ hq=>by
   subst ex; subst ey
   rw [lt'_eq];refine wpS_bind (wpS_get ?_);rw [hkd];refine wpS_bind (wpS_lift (wpAny_attempt (hc _ u v _ _ keep hu hv ⟨rfl,?_⟩)));exact wpS_pure hq
  refine La (wpAny_mono (vd asks (st:=SortSt.mk' κ (vs.toArray.zip vs.toArray) #[] 7 none) (Q:=fun _ F'=>failedOf F'=none/\∃out:List Value,(arrOf F').map (·.2)=out.toArray/\out.length=vs.length/\P (.done (.ret .none)) { s with heap:=sortedHeap s.heap a vs out.toArray })
   rfl rfl rfl (fun x hx=>?_) fun F' a1 a2 a3=>⟨a1,fin F' a2 a3 a1⟩) ?_ fun _ _ x=>x)
  ·have hx':x∈(vs.toArray.zip vs.toArray).toList:=hx;rw [ezl] at hx';obtain ⟨v,hv,e⟩:=Ll.mp hx';exact ⟨v,hv,e.symm⟩
  ·rintro ⟨⟨⟩,F'⟩ s' ⟨rfl,hf,out,eo,zo,hP⟩;dsimp only at hf eo ⊢;refine La (seqEpoch_at ho3 rfl ?_);rw [eo];refine La (listUpdate_at ho3 rfl ?_ (Lv _) (by rw [List.size_toArray,zo,sizeLine_eq]; lia));rw [hf];simp only [bne_self_eq_false,Bool.false_eq_true,if_false];exact Lb hP
theorem vB {l:Addr} {vs:List Value} {Q:Value->Shared->Prop} {κ:SortKind} (hl:s.heap.IsList l vs.toArray) (hz:vs.length<=10000)
  (hk:∀(A':Around) (s':Shared) (Q:SortKind->Shared->Prop) (E:Value->Shared->Prop),A'.units<=A.units+2->(∀b o,s.heap.get? b=some o->s'.heap.get? b=some o)->2<=vs.length->Q κ s'->wpAny (model prog w) A' (keyKind' vs.toArray) Q E s')
  (hc:∀(A':Around) (s':Shared) (u v:Value) (Q:Bool->Shared->Prop) (E:Value->Shared->Prop),A'.units<=A.units+2->(∀b o,s.heap.get? b=some o->s'.heap.get? b=some o)->u∈vs->v∈vs->Q (ll (key (u,u)) (key (v,v))) s' ->
   wpAny (model prog w) A' (keyLt' κ u v) Q E s')
  (h:∀out:List Value,out.Perm vs->out.Pairwise (fun u v=>ll (key (v,v)) (key (u,u))=false)->Q (.ref (s.heap.objs.size+1)) { s with heap:=sortedAll s.heap vs out.toArray }):wpAny (model prog w) A (call (.builtin "sorted") [.ref l]) Q E s:=by
 refine Calls.call_function_entry kind_sorted plain_sorted entry_sorted (args_sorted1 _) ?_;unfold Builtin.«sorted»;refine La (m:=checkCount "sorted" 1 1 _) (Lb ?_);refine La (collect_list hl ?_ (by rw [sizeLine_eq]; lia));refine La (wpAny_newList ?_ (by rw [sizeLine_eq]; lia));have z1:((s.heap.push (seqObj "list" #[] 0)).update s.heap.objs.size (Obj.mapSeq (·++vs.toArray))).objs.size=s.heap.objs.size+1:=by rw [Heap.size_update,size_push']
 have hoL:(((s.heap.push (seqObj "list" #[] 0)).update s.heap.objs.size (Obj.mapSeq (·++vs.toArray))).push (seqObj "list" vs.toArray 0)).get? (s.heap.objs.size+1)=some (seqObj "list" vs.toArray 0):=by
  rw [<-z1]; exact LC _ rfl
 have keep:∀b o,s.heap.get? b=some o->(((s.heap.push (seqObj "list" #[] 0)).update s.heap.objs.size (Obj.mapSeq (·++vs.toArray))).push (seqObj "list" vs.toArray 0)).get? b=some o:=fun b o e=>
  K6 _ (by rw [Heap.get?_update_ne _ _ _ _ (LA (Lc e))]; exact K6 _ e)
 show wpAny _ _ _ _ _ { s with heap:=((s.heap.push (seqObj "list" #[] 0)).update s.heap.objs.size (Obj.mapSeq (·++vs.toArray))).push (seqObj "list" vs.toArray 0) };rw [z1];have ne1:∀b o,s.heap.get? b=some o->b≠s.heap.objs.size+1:=fun b o e=>LA (Nat.lt_succ_of_lt (Lc e));refine La (wpAny_holding (wpAny_call_entry slot_list_sort ⟨_,hoL,rfl⟩ entry_list_sort (qp (κ:=κ) (key:=key) hoL hz
  (fun s' Q' E' kp h2 q=>hk _ s' Q' E' ?_ (fun b o e=>kp b o (ne1 b o e) (keep b o e)) h2 q) (fun s' u v Q' E' kp hi hj q=>hc _ s' u v Q' E' ?_ (fun b o e=>kp b o (ne1 b o e) (keep b o e)) hi hj q) fun out o1 o2=>?_) (args_list_sort _)))
 ·exact K9 _
 ·exact K9 _
 ·exact ⟨_,rfl,Lb ⟨_,rfl,h out o1 o2⟩⟩
end
noncomputable def wW (d:D):List D->List D
 |[]=>[d]
 |e::r=>if ll (lp d) (lp e)=true then d::e::r else e::wW d r
noncomputable def se:List D->List D
 |[]=>[]
 |d::r=>wW d (se r)
theorem m6 (d:D):∀xs:List D,(wW d xs).Perm (d::xs)
 |[]=>.refl _
 |e::r=>by
  unfold wW;split
  ·exact .refl _
  ·exact ((m6 d r).cons e).trans (.swap d e r)
theorem dW:∀xs:List D,(se xs).Perm xs
 |[]=>.refl _
 |d::r=>(m6 d (se r)).trans ((dW r).cons d)
def uL (xs:List D):Prop:=xs.Pairwise fun a b=>ll (lp b) (lp a)=false
theorem vb (d:D):∀{xs:List D},uL xs->uL (wW d xs)
 |[],_=>by unfold wW uL; simp
 |e::r,h=>by
  have h':=Lr.mp h;unfold wW;split
  ·rename_i c;refine Lr.mpr ⟨fun x hx=>?_,h⟩;rcases Lj.mp hx with q|q
   ·subst q; exact fF c
   ·exact gq (fF c) (h'.1 x q)
  ·rename_i c;refine Lr.mpr ⟨fun x hx=>?_,vb d h'.2⟩;rcases Lj.mp ((m6 d r).mem_iff.mp hx) with q|q
   ·subst q; simpa using c
   ·exact h'.1 x q
theorem lB:∀xs:List D,uL (se xs)
 |[]=>List.Pairwise.nil
 |d::r=>vb d (lB r)
structure Cmp2 (ys:List D):Prop where
 ok:∀y∈ys,hZ y=true
 cmp:∀x∈ys,∀y∈ys,(cD true x y).isSome=true
 head:(∀y∈ys,∃i r,y=.tuple (.int i::r))\/(∀y∈ys,∃t r,y=.tuple (.str t::r))
 deep:∀y∈ys,y.depth<=50
 many:ys.length<=10000
theorem o7:∀{xs ys:List D},xs.Perm ys->uL xs->uL ys->(∀x∈xs,hZ x=true)->(∀x∈xs,∀y∈xs,(cD true x y).isSome=true)->xs=ys
 |[],ys,hp,_,_,_,_=>by rw [List.nil_perm.mp hp]
 |x::xs,[],hp,_,_,_,_=>by have:=hp.length_eq; simp at this
 |x::xs,y::ys,hp,h1,h2,hk,hc=>by
  have p1:=Lr.mp h1;have p2:=Lr.mp h2;have exy:x=y:=by
   by_cases e:x=y
   ·exact e
   ·have hx:x∈ys:=by
     rcases Lj.mp (hp.mem_iff.mp K5) with q|q
     ·exact absurd q e
     ·exact q
    have hy:y∈xs:=by
     rcases Lj.mp (hp.mem_iff.mpr K5) with q|q
     ·exact absurd q.symm e
     ·exact q
    have a1:=p1.1 y hy;have a2:=p2.1 x hx;exact EZ (hk x K5) (hk y (K3 _ hy)) (hc x K5 y (K3 _ hy)) (jC a2 a1)
  subst exy;rw [o7 (List.Perm.cons_inv hp) p1.2 p2.2 (fun z hz=>hk z (K3 _ hz)) fun a ha b hb=>hc a (K3 _ ha) b (K3 _ hb)]
open Classical in
noncomputable def oZ (xs:List DV):M DV:=match xs with
 |[x]=>bd (op (ma x)) fun ys=>if Cmp2 ys then rt (.new (se ys)) else none
 |_=>none
open Classical in
noncomputable def Hx (h:Heap) (p:Keyed):List Int:=if e:∃d:PyData,∃as,Reads h p.1 d as/\d.canLay0=true then lp e.choose else []
theorem nY {h:Heap} {v u:Value} {d:PyData} {as:List Addr} (r:Reads h v d as) (hl:d.canLay0=true):Hx h (v,u)=lp d:=by
 unfold Hx;have e:∃d:PyData,∃as,Reads h (v,u).1 d as/\d.canLay0=true:=⟨d,as,r,hl⟩;rw [dif_pos e];obtain ⟨Ny,r',OD⟩:=e.choose_spec;rw [PySem.SeqAt.Reads.unique _ _ _ _ _ OD r' r]
theorem lH {h:Heap}:∀{vs:List Value} {ds:List PyData} {as:List Addr},ReadsAll h vs ds as->PyData.canLayAll0 ds=true->∀v∈vs,∃d∈ds,∃bs,Reads h v d bs/\d.canLay0=true
 |_,_,_,.nil,_,_,hv=>nomatch hv
 |_,_,_,.cons r rr,hl,v,hv=>by
  unfold PyData.canLayAll0 at hl;rw [Bool.and_eq_true] at hl;rcases Lj.mp hv with e|e
  ·subst e; exact ⟨_,K5,_,r,hl.1⟩
  ·obtain ⟨d,hd,bs,h1,h2⟩:=lH rr hl.2 v e;exact ⟨d,K3 _ hd,bs,h1,h2⟩
theorem gX {h:Heap}:∀{vs:List Value} {ds:List PyData} {as:List Addr},ReadsAll h vs ds as->PyData.canLayAll0 ds=true->∀i,i<ds.length->∃bs,Reads h (vs.getD i Value.none) (ds.getD i .none) bs/\(ds.getD i .none).canLay0=true
 |_,_,_,.nil,_,i,hi=>absurd hi (Nat.not_lt_zero _)
 |_,_,_,.cons r rr,hl,0,_=>by
  unfold PyData.canLayAll0 at hl;rw [Bool.and_eq_true] at hl;exact ⟨_,r,hl.1⟩
 |_,_,_,.cons r rr,hl,i+1,hi=>by
  unfold PyData.canLayAll0 at hl;rw [Bool.and_eq_true] at hl;exact gX rr hl.2 i (Nat.lt_of_succ_lt_succ hi)
theorem uk {h:Heap}:∀(vs:List Value),(∀v∈vs,∃b o D' n x t,v=.ref b/\h.get? b=some o/\o.cls=.type "tuple" /\ o.data=.seq D' n/\D'[0]?=some (.str x t))->∃fs,PySem.W.KatTups h vs fs/\fs.length=vs.length/\∀f∈fs,∃x t,f=Value.str x t
 |[],_=>⟨[],PySem.W.KatTups.nil,rfl,fun _ hf=>nomatch hf⟩
 |v::r,hv=>by
  obtain ⟨b,o,D',n,x,t,rfl,eo,ec,ed,e0⟩:=hv v K5;obtain ⟨fs,h1,h2,h3⟩:=uk r fun u hu=>hv u (K3 _ hu);refine ⟨.str x t::fs,PySem.W.KatTups.cons eo ec ed e0 h1,by simp [h2],fun f hf=>?_⟩;rcases Lj.mp hf with e|e
  ·exact ⟨x,t,e⟩
  ·exact h3 f e
theorem uz {prog:Program} {w:World} {A:Around} {s:Shared} {Q:Bool->Shared->Prop} {X Y:Nat}:∀{vs ws:List Value} {xs ys:List PyData} {as bs:List Addr} {b:Bool} (i:Nat),ReadsAll s.heap vs xs as->ReadsAll s.heap ws ys bs ->
  PyData.canLayAll0 xs=true->PyData.canLayAll0 ys=true->A.units+PyData.depthAll xs<cLine->vs.length+Y=ws.length+X ->
  (i=0->(∃u r v r',xs=.int u::r/\ys=.int v::r')\/(∃u r v r',xs=.str u::r/\ys=.str v::r'))->cL true xs ys=some b->Q b s ->
  PySem.W.KatLex prog w A true (decide (X<Y)) Q (vs.zip ws) i s
 |_,_,_,_,_,_,b,i,.nil,.nil,_,_,_,hl,_,hc,h=>by
  unfold cL at hc; cases hc
  have:decide (X<Y)=false:=Ly (by simp at hl; lia);rw [this]; exact h
 |_,_,_,_,_,_,b,i,.nil,.cons _ _,_,_,_,hl,_,hc,h=>by
  unfold cL at hc; cases hc
  have:decide (X<Y)=true:=Lz (by simp at hl; lia);rw [this]; exact h
 |_,_,_,_,_,_,b,i,.cons _ _,.nil,_,_,_,hl,_,hc,h=>by
  unfold cL at hc; cases hc
  have:decide (X<Y)=false:=Ly (by simp at hl; lia);rw [this]; exact h
 |_,_,x::xs,y::ys,_,_,b,i,.cons r1 rr1,.cons r2 rr2,l1,l2,hu,hl,hh,hc,h=>by
  unfold PyData.canLayAll0 at l1 l2;rw [Bool.and_eq_true] at l1 l2;unfold cL at hc;have OH:PyData.depthAll (x::xs)=max x.depth (PyData.depthAll xs):=by rw [PyData.depthAll]
  rw [OH] at hu;refine PySem.W.kat_cons (SeqAt.eqAt_reads x y A s _ _ _ _ r1 r2 l1.1 l2.1 0x1 prog w _ _ ?_);cases e:PyData.eqv x y with
  |true=>
   rw [e,if_pos rfl] at hc;exact PySem.W.kat_yes (uz (i+1) rr1 rr2 l1.2 l2.2 0x1 (by simp at hl; lia) (fun q=>absurd q (Nat.succ_ne_zero _)) hc h)
  |false=>
   rw [e,if_neg Bool.false_ne_true] at hc;refine PySem.W.kat_no ?_;by_cases hi:i=0
   ·subst hi;rcases hh rfl with ⟨u,r,v,r',e1,e2⟩|⟨u,r,v,r',e1,e2⟩
    ·cases e1; cases e2
     cases r1; cases r2
     unfold cD cI at hc; cases hc
     exact oneLt_int h
    ·cases e1; cases e2
     cases r1; cases r2
     unfold cD cS at hc; cases hc
     exact oneLt_str h
   ·have:(true&&i==0)=false:=by simp [hi]
    rw [this];refine PySem.W.kat_one _ _ ?_;exact m8 _ true x y A s _ _ _ _ b (Nat.lt_succ_self _) r1 r2 l1.1 l2.1 0x1 hc prog w _ _ h
theorem zH {α:Type} {d:α}:∀{xs ys:List α},xs.Perm ys->∃is:List Nat,is.Perm (List.range ys.length)/\xs=is.map fun i=>ys.getD i d:=by
 intro xs ys h
 induction h with
 |nil=>exact ⟨[],0x4,rfl⟩
 |@cons x l1 l2 h ih=>
  obtain ⟨is,h1,h2⟩:=ih;refine ⟨0::is.map (·+1),?_,?_⟩
  ·rw [List.length_cons,List.range_succ_eq_map];exact (h1.map _).cons 0
  ·rw [List.map_cons,List.map_map,h2];rfl
 |swap x y l=>
  refine ⟨1::0::(List.range l.length).map (·+2),?_,?_⟩
  ·rw [List.length_cons,List.length_cons,List.range_succ_eq_map,List.range_succ_eq_map,List.map_cons,List.map_map];exact List.Perm.swap _ _ _
  ·rw [List.map_cons,List.map_cons,List.map_map];show _=y::x::_;congr 1;congr 1;exact (lj d l).symm
 |@trans l1 l2 l3 ha hb iha ihb=>
  obtain ⟨is,h1,h2⟩:=iha;obtain ⟨js,h3,h4⟩:=ihb;have zl:js.length=l2.length:=by rw [h4]; simp
  refine ⟨is.map fun i=>js.getD i 0,?_,?_⟩
  ·have:=h1.map fun i=>js.getD i 0;rw [<-zl,lj] at this;exact this.trans h3
  ·rw [List.map_map,h2];refine List.map_congr_left fun i hi=>?_;have LV:i<l2.length:=Ln.mp (h1.mem_iff.mp hi);have hlt':i<js.length:=by lia
   show l2.getD i d=l3.getD (js.getD i 0) d;rw [h4];simp [hlt']
section
variable {X:Cx} {E:XK}
theorem pR (hu:X.A.units+64<cLine):dI X E (.builtin "sorted") oZ:=fun pins s σ O P H₀ H xs vs us r Q I hd hs rx rv e q=>by
 unfold oZ at e;split at e
 ·obtain ⟨ys,e1,e2⟩:=bu e;split at e2
  ·rename_i hz;cases e2;cases rx with
   |cons r1 rr=>
    cases rr;obtain ⟨a,ws,rfl,ha,l⟩:=r1.list e1;cases rv with
    |cons q1 q2=>
     cases q2;cases q1;obtain ⟨D',ri,pl,hzz⟩:=I.list (eN.of ha);have hlen:D'.length=ys.length:=by rw [<-ri.length,l.length]
     obtain ⟨as,ra⟩:=RpL.reads I l ri;have la:=l.lay;have item:∀v∈D',∃d∈ys,∃bs,Reads s.heap v d bs/\d.canLay0=true:=lH ra la;refine vB (κ:=tuples' true) (key:=Hx s.heap) pl.isList (by rw [hlen]; exact hz.many) (fun A' s' Q' E' hA kp h2 hq=>?_) (fun A' s' u v Q' E' hA kp hi hj hq=>?_) fun out o1 o2=>?_
     ·
      rcases hz.head with hh|hh
      ·obtain ⟨fs,f1,f2,f3⟩:=xg (h:=s'.heap) D' fun v hv=>by
        obtain ⟨d,Nf,bs,rd,ld⟩:=item v hv;obtain ⟨i,cy,ed⟩:=hh d Nf;subst ed;cases rd with
        |@tuple b o OF n _ _ g1 g2 g3 g4=>
         cases g4':OF.toList with
         |nil=>rw [g4'] at g4; cases g4
         |cons v0 vr=>
          rw [g4'] at g4;cases g4 with
          |cons g5 g6=>
           cases g5 with
           |int _ t=>exact ⟨b,o,OF,n,i,t,rfl,kp b o g1,g2,g3,by rw [<-Array.getElem?_toList,g4']; rfl⟩
       refine PySem.W.kat_kind (T:=.type "int") f1 0x1 (fun v hv=>?_) (by rfl) hq;obtain ⟨i,t,rfl⟩:=f3 v hv;exact PySem.W.Looks.now
      ·obtain ⟨fs,f1,f2,f3⟩:=uk (h:=s'.heap) D' fun v hv=>by
        obtain ⟨d,Nf,bs,rd,ld⟩:=item v hv;obtain ⟨i,cy,ed⟩:=hh d Nf;subst ed;cases rd with
        |@tuple b o OF n _ _ g1 g2 g3 g4=>
         cases g4':OF.toList with
         |nil=>rw [g4'] at g4; cases g4
         |cons v0 vr=>
          rw [g4'] at g4;cases g4 with
          |cons g5 g6=>
           cases g5 with
           |str _ t=>exact ⟨b,o,OF,n,i,t,rfl,kp b o g1,g2,g3,by rw [<-Array.getElem?_toList,g4']; rfl⟩
       refine PySem.W.kat_kind (T:=.type "str") f1 0x1 (fun v hv=>?_) (by rfl) hq;obtain ⟨i,t,rfl⟩:=f3 v hv;exact PySem.W.Looks.now
     ·obtain ⟨d1,O1,bs1,rd1,ld1⟩:=item u hi;obtain ⟨d2,hd2,bs2,rd2,ld2⟩:=item v hj;rw [nY rd1 ld1,nY rd2 ld2] at hq;obtain ⟨b,hb⟩:=Lq.mp (hz.cmp d1 O1 d2 hd2);rw [wy (hz.ok d1 O1) (hz.ok d2 hd2) hb] at hq;have dp1:=hz.deep d1 O1;have rd1':=Reads.keeps kp rd1;have rd2':=Reads.keeps kp rd2;have OT:(∃x r x' r',d1=.tuple (.int x::r)/\d2=.tuple (.int x'::r'))\/(∃x r x' r',d1=.tuple (.str x::r)/\d2=.tuple (.str x'::r')):=by
       rcases hz.head with hh|hh
       ·obtain ⟨x,r,e1⟩:=hh d1 O1;obtain ⟨x',r',e2⟩:=hh d2 hd2;exact .inl ⟨x,r,x',r',e1,e2⟩
       ·obtain ⟨x,r,e1⟩:=hh d1 O1;obtain ⟨x',r',e2⟩:=hh d2 hd2;exact .inr ⟨x,r,x',r',e1,e2⟩
      obtain ⟨xs1,e1⟩:∃l,d1=.tuple l:=by
       rcases OT with ⟨x,r,x',r',e1,e2⟩|⟨x,r,x',r',e1,e2⟩ <;> exact ⟨_,e1⟩
      obtain ⟨xs2,e2⟩:∃l,d2=.tuple l:=by
       rcases OT with ⟨x,r,x',r',e1,e2⟩|⟨x,r,x',r',e1,e2⟩ <;> exact ⟨_,e2⟩
      subst e1; subst e2
      unfold cD at hb;unfold PyData.canLay0 at ld1 ld2;unfold PyData.depth at dp1;cases rd1' with
      |@tuple b1 o1 vs1 n1 _ _ g1 g2 g3 g4=>
       cases rd2' with
       |@tuple b2 o2 vs2 n2 _ _ k1 k2 k3 k4=>
        refine PySem.W.kat_lt g1 g3 k1 k3 (uz (X:=vs1.size) (Y:=vs2.size) 0 g4 k4 ld1 ld2 0x1 (by simp; lia) (fun _=>?_) hb hq);rcases OT with ⟨x,r,x',r',e1,e2⟩|⟨x,r,x',r',e1,e2⟩
        ·cases e1; cases e2; exact .inl ⟨_,_,_,_,rfl,rfl⟩
        ·cases e1; cases e2; exact .inr ⟨_,_,_,_,rfl,rfl⟩
     ·
      obtain ⟨is,i1,i2⟩:=zH (d:=Value.none) o1;have LV:∀i∈is,i<ys.length:=fun i hi=>by
       have:=Ln.mp (i1.mem_iff.mp hi);lia
      have OD:=l.pick is LV;have NI:=rf ri is fun i hi=>by rw [<-l.length]; exact LV i hi
      have ed:(is.map fun i=>ys.getD i .none)=se ys:=by
       have hp:(is.map fun i=>ys.getD i .none).Perm ys:=by
        have:=i1.map fun i=>ys.getD i .none;rw [hlen,lj] at this;exact this
       refine o7 (hp.trans (dW ys).symm) ?_ (lB ys) (fun x hx=>hz.ok x (hp.mem_iff.mp hx)) fun x hx y hy=>hz.cmp x (hp.mem_iff.mp hx) y (hp.mem_iff.mp hy);rw [i2] at o2;have o3:=List.pairwise_map.mp o2;refine List.pairwise_map.mpr (o3.imp_of_mem fun {i j} hi hj Ov=>?_);obtain ⟨bs1,k1,k2⟩:=gX ra la i (LV i hi);obtain ⟨bs2,k3,k4⟩:=gX ra la j (LV j hj);rw [nY k1 k2,nY k3 k4] at Ov;exact Ov
      rw [i2];rw [ed] at OD;obtain ⟨ep,hat⟩:=sortedAll_at s.heap D' (is.map fun i=>D'.getD i Value.none).toArray;have hn:s.heap.objs.size<=s.heap.objs.size+1:=Nat.le_succ _;refine ⟨.ref (s.heap.objs.size+1),upd H (s.heap.objs.size+1) (.lst (is.map fun i=>ws.getD i .non)),I.laid (t':=s.toks) (fun b o e=>sortedAll_old e) hn ⟨?_,_,ep,NI,hat⟩,rfl,q _ _ (bb (I.hok.fresh hn)) (RE.made hs (I.hok.fresh hn) OD)⟩;rw [<-OD.length,(dW ys).length_eq,l.length]; exact hzz
  ·cases e2
 ·cases e
end
section
variable {X:Cx} {E:XK} {tg e:Expr} {f:DS->M DV}
end
section
variable {X:Cx} {E:XK} {k:Nat} {js:List Nat} {N':List Str} {scope:Scope} {elt tg iter:Expr} {ifs:List Expr} {pos:Pos} {fi:DS->M (List D)} {g:TG} {sf:D->DS->Option DS} {gc:DS->M Bool} {fe:DS->M DV}
end
end L3
namespace LW
open PySem PySem.Spec L2 L3
noncomputable def uo (C:Addr):DS->M Out:=(bE (aK 4 (e2 gSub (e2 aB (af 2) (af 3)) (eC (.int 1)))) (bx (m5 (e2 CF (af 3) (eC (.int 3))) (m5 (aR (aw 2 (bW C)) (aa (af 0) (aa (bj (aa (af 2) (aa (af 1) ai))) ai))) (aR (aw 2 (bW C)) (aa (af 0) (aa (bj (aa (af 4) (aa (af 1) ai))) ai)))))))
noncomputable def jN (C:Addr):List DV->M DV:=eT ["house", "colour", "first", "size", "last"] (uo C)
noncomputable def qc (C:Addr):DS->M Out:=(bE (gk (fun δ=>bd (e2 hW (aR c6 (aa (af 2) ai)) (eC (.int 3)) δ) bR) (bx (eC (.bool false))) b9) (bE (gk (gm (fun δ=>bd ((aR qB (aa (aU 1 [0,1] (G8 (af 2)) (ar 0) bN (aR (aw 2 (bW C)) (aa (af 1) (aa (bj (aa (af 2) (aa (af 0) ai))) ai)))) ai)) δ) bR)) (bx (eC (.bool false))) b9) (bx (aR qB (aa (aU 1 [2] (mv (aa (eC (.int 1)) (aa (aR c6 (aa (af 2) ai)) ai))) (ar 0) bN (e2 hW (e2 bz (af 1) (e2 gSub (af 0) (eC (.int 1)))) (e2 bz (af 1) (af 0)))) ai)))))
noncomputable def gn (C:Addr):List DV->M DV:=eT ["house", "number", "colours"] (qc C)
noncomputable def ni (C:Addr):DS->M Out:=(bE (gk (fun δ=>bd (e2 (iG false) (e2 bz (af 1) (eC (.int 0))) (eC (.str "run")) δ) bR) (bx (aR (aw 4 (jN C)) (aa (af 0) (aa (e2 bz (af 1) (eC (.int 1))) (aa (e2 bz (af 1) (eC (.int 2))) (aa (e2 bz (af 1) (eC (.int 3))) ai)))))) b9) (bx (m5 (e2 (iG false) (e2 bz (af 1) (eC (.int 0))) (eC (.str "group"))) (aR (aw 3 (gn C)) (aa (af 0) (aa (e2 bz (af 1) (eC (.int 1))) (aa (e2 bz (af 1) (eC (.int 2))) ai)))))))
noncomputable def cT (C:Addr):List DV->M DV:=eT ["house", "meld"] (ni C)
noncomputable def k6 (C:Addr) (Lg:Addr):DS->M Out:=(bE (gk (gm (fun δ=>bd ((aR (aw 2 (cT C)) (aa (af 0) (aa (af 1) ai))) δ) bR)) (fun _=>some (.error (.ref Lg))) b9) (bE (gk (fun δ=>bd (e2 (iG false) (e2 bz (af 1) (eC (.int 0))) (eC (.str "run")) δ) bR) (bx (aU 1 [1] (rS (aa (e2 bz (af 1) (eC (.int 3))) ai)) (ar 0) bN (bj (aa (e2 aB (e2 bz (af 1) (eC (.int 2))) (af 0)) (aa (e2 bz (af 1) (eC (.int 1))) ai))))) b9) (bx (aU 1 [1] (G8 (e2 bz (af 1) (eC (.int 2)))) (ar 0) bN (bj (aa (e2 bz (af 1) (eC (.int 1))) (aa (af 0) ai)))))))
noncomputable def cF (C:Addr) (Lg:Addr):List DV->M DV:=eT ["house", "meld"] (k6 C Lg)
noncomputable def iB (C:Addr):DS->M Out:=(bE (aK 1 (cw (aa (bj ai) ai))) (bE (cG (rS (aa (gY C "colours" (af 0)) ai)) (ar 2) (fun δ=>(aK 1 (e2 aB (af 1) (aU 1 [2] (hX (af 1)) (ar 0) bN (e2 aB (af 0) (bj (aa (af 1) ai)))))) (frz 1 δ))) (fun δ=>(bx (aR sN (aa (aU 1 [] (hX (af 1)) (ar 0) (fun δ=>bd (e2 CF (aR c6 (aa (af 0) ai)) (eC (.int 3)) δ) bR) (af 0)) ai))) (frz 1 δ))))
noncomputable def b8 (C:Addr):List DV->M DV:=eT ["house", "choices", "colour"] (iB C)
noncomputable def lX (C:Addr):DS->M Out:=(bE (aK 1 (aR (aw 1 (b8 C)) (aa (af 0) ai))) (bE (aK 2 (cw ai)) (bE (cG (mv (aa (eC (.int 1)) (aa (e2 aB (gY C "most" (af 0)) (eC (.int 1))) ai))) (ar 3) (fun δ=>(qz 2 (aU 1 [3] (hX (af 1)) (ar 0) bN (bj (aa (eC (.str "group")) (aa (af 1) (aa (af 0) ai)))))) (frz 1 δ))) (bx (af 2)))))
noncomputable def dU (C:Addr):List DV->M DV:=eT ["house", "choices", "found", "number"] (lX C)
noncomputable def pY (C:Addr):DS->M Out:=(bE (aK 1 (cw ai)) (bE (cG (rS (aa (gY C "colours" (af 0)) ai)) (ar 2) (cG (mv (aa (eC (.int 1)) (aa (e2 aB (gY C "most" (af 0)) (eC (.int 1))) ai))) (ar 3) (bE (aK 4 (e2 aB (e2 gSub (gY C "most" (af 0)) (af 3)) (eC (.int 1)))) (qz 1 (aU 1 [2,3] (mv (aa (eC (.int 3)) (aa (e2 aB (af 4) (eC (.int 1))) ai))) (ar 0) bN (bj (aa (eC (.str "run")) (aa (af 1) (aa (af 2) (aa (af 0) ai)))))))))) (bx (af 1))))
noncomputable def fy (C:Addr):List DV->M DV:=eT ["house", "found", "colour", "first", "room"] (pY C)
noncomputable def xX (C:Addr):DS->M Out:=(bx (e2 aB (aR (aw 1 (dU C)) (aa (af 0) ai)) (aR (aw 1 (fy C)) (aa (af 0) ai))))
noncomputable def lO (C:Addr):List DV->M DV:=eT ["house"] (xX C)
noncomputable def iY:DS->M Out:=(bE (gk (fun δ=>bd (e2 (iG false) (e2 bz (af 0) (eC (.int 0))) (eC (.str "run")) δ) bR) (bx (aU 1 [0] (rS (aa (e2 bz (af 0) (eC (.int 3))) ai)) (ar 0) bN (bj (aa (e2 aB (e2 bz (af 1) (eC (.int 2))) (af 0)) (aa (e2 bz (af 1) (eC (.int 1))) ai))))) b9) (bx (aU 1 [0] (G8 (e2 bz (af 0) (eC (.int 2)))) (ar 0) bN (bj (aa (e2 bz (af 1) (eC (.int 1))) (aa (af 0) ai))))))
noncomputable def a8:List DV->M DV:=eT ["meld"] (iY)
noncomputable def mh:DS->M Out:=(bE (aK 2 (cw ai)) (bE (cG (rS (aa (af 1) ai)) (ar 3) (cG (mv (aa (eC (.int 1)) (aa (e2 aB (af 0) (eC (.int 1))) ai))) (ar 4) (aK 2 (e2 aB (af 2) (aU 1 [3,4] (mv (aa (e2 aB (af 4) (eC (.int 2))) (aa (e2 aB (af 0) (eC (.int 1))) ai))) (ar 0) bN (bj (aa (eC (.str "run")) (aa (af 1) (aa (af 2) (aa (e2 aB (e2 gSub (af 0) (af 2)) (eC (.int 1))) ai)))))))))) (bE (aK 5 (cw (aa (cw ai) ai))) (bE (cG (rS (aa (af 1) ai)) (ar 3) (fun δ=>(aK 5 (e2 aB (af 5) (aU 1 [3] (hX (af 5)) (ar 0) bN (e2 aB (af 0) (cw (aa (af 1) ai)))))) (frz 5 δ))) (bE (cG (mv (aa (eC (.int 1)) (aa (e2 aB (af 0) (eC (.int 1))) ai))) (ar 6) (fun δ=>(aK 2 (e2 aB (af 2) (aU 1 [6] (hX (af 5)) (ar 0) (fun δ=>bd (e2 wz (aR c6 (aa (af 0) ai)) (eC (.int 2)) δ) bR) (bj (aa (eC (.str "group")) (aa (af 1) (aa (aR lV (aa (af 0) ai)) ai))))))) (frz 5 δ))) (bx (aR oZ (aa (af 2) ai))))))))
noncomputable def eX:List DV->M DV:=eT ["most", "colours", "found", "colour", "first", "kinds", "number"] (mh)
section
variable {F G:DS->M Out} {f fa fb fc fd:DS->M DV} {fr:DS->M (List DV)} {gc:DS->M Bool} {g:DV->DV->M DV} {δ δ':DS} {x y z u:DV} {k:Bool}
theorem zU {a b:Bool} (h1:fa δ=rt (.d (.bool a))) (h2:fb δ=rt (.d (.bool b))):m5 fa fb δ=rt (.d (.bool (a&&b))):=by
 unfold m5;rw [h1,ay,xC,ay,h2];cases a <;> rfl
theorem Bl (h1:fa δ=rt x) (h2:fb δ=rt y) (h3:fc δ=rt z) (h4:fd δ=rt u):aa fa (aa fb (aa fc (aa fd ai))) δ=rt [x,y,z,u]:=by
 have:=gw h2 h3 h4;unfold aa at this ⊢;rw [h1,ay,this]; rfl
theorem Ft {a b c:D} (h1:fa δ=rt (.d a)) (h2:fb δ=rt (.d b)) (h3:fc δ=rt (.d c)):bj (aa fa (aa fb (aa fc ai))) δ=rt (.d (.tuple [a,b,c])):=by
 unfold bj;rw [gw h1 h2 h3];rfl
theorem Fp {a b c e:D} (h1:fa δ=rt (.d a)) (h2:fb δ=rt (.d b)) (h3:fc δ=rt (.d c)) (h4:fd δ=rt (.d e)):bj (aa fa (aa fb (aa fc (aa fd ai)))) δ=rt (.d (.tuple [a,b,c,e])):=by
 unfold bj;rw [Bl h1 h2 h3 h4];rfl
theorem kJ (h:gc δ=rt true):gk gc F G δ=F δ:=by rw [mm h]; rfl
theorem oW (h:gc δ=rt false):gk gc F G δ=G δ:=by rw [mm h]; rfl
variable {xs:List D}
theorem vX (h:f δ=rt (.d (.tuple xs))):G8 f δ=rt xs:=by unfold G8; rw [h]; rfl
theorem vU (h:f δ=rt (.new xs)):hX f δ=rt xs:=by unfold hX; rw [h]; rfl
theorem BJ {i:Nat} {ys:List D} (hi:δ[i]?=some (some (.own xs))) (h:f δ=rt (.new ys)) (hl:xs.length+ys.length<=1000000):qz i f δ=rt (.nx (δ.set i (some (.own (xs++ys))))):=by
 unfold qz;rw [hi];simp only;rw [h,ay];exact if_pos hl
end
theorem bF (i j:Int):aB (.d (.int i)) (.d (.int j))=rt (.d (.int (i+j))):=rfl
variable {xs:List D}
theorem oI {x y:DV} {ys:List D} (h0:Aw x y=none) (hx:ma x=some xs) (hy:ma y=some ys) (hl:xs.length+ys.length<=1000000):aB x y=rt (.new (xs++ys)):=by
 unfold aB CK;rw [Ci h0 hx hy hl];rfl
noncomputable def rn (c f n:Int):D:=.tuple [.str "run",.int c,.int f,.int n]
noncomputable def tp (cs:List Int):D:=.tuple (cs.map PyData.int)
noncomputable def gp (n:Int) (cs:List Int):D:=.tuple [.str "group",.int n,tp cs]
theorem tM:PyData.eqv (.str "run") (.str "run")=true:=by decide +kernel
theorem sA:PyData.eqv (.str "group") (.str "run")=false:=by decide +kernel
theorem HL:PyData.eqv (.str "run") (.str "group")=false:=by decide +kernel
theorem BN:PyData.eqv (.str "group") (.str "group")=true:=by decide +kernel
theorem pO {a b:Str} {k:Bool} (h:PyData.eqv (.str a) (.str b)=k):iG false (.d (.str a)) (.d (.str b))=rt (.d (.bool k)):=by
 unfold iG;rw [rR,rR];simp only [Bool.false_eq_true,if_false,h];exact if_pos (by unfold PyData.depth; lia)
noncomputable def lD (m c col f n:Int):Bool:=decide (3<=n)&&(bt m c (f,col)&&bt m c (f+n-1,col))
variable {fa:DS->M DV} {δ:DS}
theorem AG {C:Addr} {m c a b:Int} {fb:DS->M DV} (h1:fa δ=rt (hs C m c)) (h2:fb δ=rt (.d (pr (a,b)))):aR (aw 2 (bW C)) (aa fa (aa fb ai)) δ=rt (.d (.bool (bt m c (a,b)))):=
 aV (bQ h1 h2) rfl rfl (AW C m c (a,b))
theorem As (C:Addr) (m c col f n:Int):jN C [hs C m c,.d (.int col),.d (.int f),.d (.int n)]=rt (.d (.bool (lD m c col f n))):=by
 unfold jN uo eT;have hd:m9 ["house", "colour", "first", "size", "last"] [hs C m c,.d (.int col),.d (.int f),.d (.int n)]=[some (hs C m c),some (.d (.int col)),some (.d (.int f)),some (.d (.int n)),none]:=rfl;rw [hd];have s1:aK 4 (e2 gSub (e2 aB (af 2) (af 3)) (eC (.int 1))) [some (hs C m c),some (.d (.int col)),some (.d (.int f)),some (.d (.int n)),none]=rt (.nx [some (hs C m c),some (.d (.int col)),some (.d (.int f)),some (.d (.int n)),some (.d (.int (f+n-1)))]):=
  iH (x:=.d (.int (f+n-1))) ((av ((av rfl rfl).trans (bF f n)) rfl).trans (cM _ _)) rfl
 rw [cj s1];rw [bD (zU ((av (x:=.d (.int n)) (y:=.d (.int 3)) rfl rfl).trans (iL _ _)) (zU (AG (a:=f) (b:=col) rfl (jv rfl rfl)) (AG (a:=f+n-1) (b:=col) rfl (jv rfl rfl))))];rfl
noncomputable def asc (cs:List Int):Bool:=(List.range (cs.length-1)).all fun k=>decide (cs.getD k 0<cs.getD (k+1) 0)
noncomputable def lz (m c n:Int) (cs:List Int):Bool:=decide (3<=cs.length)&&cs.all (fun x=>bt m c (n,x))&&asc cs
theorem xG (cs:List Int):c6 [.d (tp cs)]=rt (.d (.int (cs.length:Int))):=by
 show rt (DV.d (.int ((cs.map PyData.int).length:Int)))=_;rw [List.length_map]
theorem wk (C:Addr) (m c n:Int) (cs:List Int) (hl:cs.length<=900):gn C [hs C m c,.d (.int n),.d (tp cs)]=rt (.d (.bool (lz m c n cs))):=by
 unfold gn qc eT;have hd:m9 ["house", "number", "colours"] [hs C m c,.d (.int n),.d (tp cs)]=[some (hs C m c),some (.d (.int n)),some (.d (tp cs))]:=rfl;rw [hd];have t1:(fun δ=>bd (e2 hW (aR c6 (aa (af 2) ai)) (eC (.int 3)) δ) bR) [some (hs C m c),some (.d (.int n)),some (.d (tp cs))]=rt (decide ((cs.length:Int)<3)):=
  bf ((av (y:=.d (.int 3)) ((cC (bp (x:=.d (tp cs)) rfl)).trans (xG cs)) rfl).trans (fH _ _))
 unfold lz;by_cases h3:3<=cs.length
 ·have e3:decide ((cs.length:Int)<3)=false:=Ly 0x1;rw [e3] at t1;rw [cj ((oW t1).trans (show b9 _=_ from rfl))];have c1:cH (ar 0) bN (aR (aw 2 (bW C)) (aa (af 1) (aa (bj (aa (af 2) (aa (af 0) ai))) ai))) (cK 1 [0,1] [some (hs C m c),some (.d (.int n)),some (.d (tp cs))]) (cs.map PyData.int)=some ((cs.map fun x=>bt m c (n,x)).map PyData.bool):=by
   rw [List.map_map];refine du fun x hx=>?_;exact AG (a:=n) (b:=x) rfl (jv rfl rfl)
  have t2:(gm (fun δ=>bd ((aR qB (aa (aU 1 [0,1] (G8 (af 2)) (ar 0) bN (aR (aw 2 (bW C)) (aa (af 1) (aa (bj (aa (af 2) (aa (af 0) ai))) ai)))) ai)) δ) bR)) [some (hs C m c),some (.d (.int n)),some (.d (tp cs))]=rt (!cs.all fun x=>bt m c (n,x)):=by
   refine sY (bf ((cC (bp (br (vX (xs:=cs.map PyData.int) rfl) (by rw [List.length_map]; lia) c1))).trans ?_));rw [ow,List.all_map];rfl
  cases ha:cs.all fun x=>bt m c (n,x) with
  |false=>
   rw [ha] at t2;rw [qM ((kJ t2).trans (bD (x:=.d (.bool false)) rfl))];rw [Bool.and_false,Bool.false_and];rfl
  |true=>
   rw [ha] at t2;rw [cj ((oW t2).trans (show b9 _=_ from rfl))];have hat:∀k:Nat,k<cs.length->atI (cs.map PyData.int) (k:Int)=some (.int (cs.getD k 0)):=fun k hk=>by
    rw [Bx (by rw [List.length_map]; exact hk) (.int 0)];simp [hk]
   have c2:cH (ar 0) bN (e2 hW (e2 bz (af 1) (e2 gSub (af 0) (eC (.int 1)))) (e2 bz (af 1) (af 0))) (cK 1 [2] [some (hs C m c),some (.d (.int n)),some (.d (tp cs))]) (dS 1 ((cs.length:Int)-1).toNat)=some (((List.range (cs.length-1)).map fun k=>decide (cs.getD k 0<cs.getD (k+1) 0)).map PyData.bool):=by
    rw [show ((cs.length:Int)-1).toNat=cs.length-1 by lia,List.map_map];unfold dS;refine du fun k hk=>?_;have hk':k<cs.length-1:=Ln.mp hk;have i1:e2 bz (af 1) (e2 gSub (af 0) (eC (.int 1))) ((cK 1 [2] [some (hs C m c),some (.d (.int n)),some (.d (tp cs))]).set 0 (some (.d (.int (1+(k:Int))))))=rt (.d (.int (cs.getD k 0))):=by
     refine (av (x:=.d (tp cs)) rfl ((av (x:=.d (.int (1+(k:Int)))) rfl rfl).trans (cM _ _))).trans (aH ?_);rw [show (1+(k:Int)-1)=(k:Int) by lia];exact hat k 0x1
    have i2:e2 bz (af 1) (af 0) ((cK 1 [2] [some (hs C m c),some (.d (.int n)),some (.d (tp cs))]).set 0 (some (.d (.int (1+(k:Int))))))=rt (.d (.int (cs.getD (k+1) 0))):=by
     refine (av (x:=.d (tp cs)) (y:=.d (.int (1+(k:Int)))) rfl rfl).trans (aH ?_);rw [show (1+(k:Int))=((k+1:Nat):Int) by lia];exact hat (k+1) 0x1
    exact (av i1 i2).trans (fH _ _)
   have Jt:aR c6 (aa (af 2) ai) [some (hs C m c),some (.d (.int n)),some (.d (tp cs))]=rt (.d (.int (cs.length:Int))):=(cC (bp (x:=.d (tp cs)) rfl)).trans (xG cs);have e1:aR qB (aa (aU 1 [2] (mv (aa (eC (.int 1)) (aa (aR c6 (aa (af 2) ai)) ai))) (ar 0) bN (e2 hW (e2 bz (af 1) (e2 gSub (af 0) (eC (.int 1)))) (e2 bz (af 1) (af 0)))) ai) [some (hs C m c),some (.d (.int n)),some (.d (tp cs))]=rt (.d (.bool (asc cs))):=by
    refine (cC (bp (br (iX (bQ (x:=.d (.int 1)) rfl Jt) 0x1 0x1 0x1 0x1) (by rw [d6]; lia) c2))).trans ?_;rw [ow,List.all_map];rfl
   rw [bD e1];rw [Lz h3];rfl
 ·have e3:decide ((cs.length:Int)<3)=true:=Lz 0x1;rw [e3] at t1;rw [qM ((kJ t1).trans (bD (x:=.d (.bool false)) rfl))];rw [Ly h3];rfl
theorem v5 (C:Addr) (m c col f n:Int):cT C [hs C m c,.d (rn col f n)]=rt (.d (.bool (lD m c col f n))):=by
 unfold cT ni eT;have hd:m9 ["house", "meld"] [hs C m c,.d (rn col f n)]=[some (hs C m c),some (.d (rn col f n))]:=rfl;rw [hd];have t1:(fun δ=>bd (e2 (iG false) (e2 bz (af 1) (eC (.int 0))) (eC (.str "run")) δ) bR) [some (hs C m c),some (.d (rn col f n))]=rt true:=
  bf ((av ((av (x:=.d (rn col f n)) rfl rfl).trans (aH rfl)) rfl).trans (pO tM))
 have i1:e2 bz (af 1) (eC (.int 1)) [some (hs C m c),some (.d (rn col f n))]=rt (.d (.int col)):=(av (x:=.d (rn col f n)) rfl rfl).trans (aH rfl);have i2:e2 bz (af 1) (eC (.int 2)) [some (hs C m c),some (.d (rn col f n))]=rt (.d (.int f)):=(av (x:=.d (rn col f n)) rfl rfl).trans (aH rfl);have i3:e2 bz (af 1) (eC (.int 3)) [some (hs C m c),some (.d (rn col f n))]=rt (.d (.int n)):=(av (x:=.d (rn col f n)) rfl rfl).trans (aH rfl);rw [qM ((kJ t1).trans (bD (aV (n:=4) (Bl (fa:=af 0) (x:=hs C m c) rfl i1 i2 i3) rfl rfl (As C m c col f n))))];rfl
theorem we (C:Addr) (m c n:Int) (cs:List Int) (hl:cs.length<=900):cT C [hs C m c,.d (gp n cs)]=rt (.d (.bool (lz m c n cs))):=by
 unfold cT ni eT;have hd:m9 ["house", "meld"] [hs C m c,.d (gp n cs)]=[some (hs C m c),some (.d (gp n cs))]:=rfl;rw [hd];have t1:(fun δ=>bd (e2 (iG false) (e2 bz (af 1) (eC (.int 0))) (eC (.str "run")) δ) bR) [some (hs C m c),some (.d (gp n cs))]=rt false:=
  bf ((av ((av (x:=.d (gp n cs)) rfl rfl).trans (aH rfl)) rfl).trans (pO sA))
 have i0:e2 (iG false) (e2 bz (af 1) (eC (.int 0))) (eC (.str "group")) [some (hs C m c),some (.d (gp n cs))]=rt (.d (.bool true)):=(av ((av (x:=.d (gp n cs)) rfl rfl).trans (aH rfl)) rfl).trans (pO BN);have i1:e2 bz (af 1) (eC (.int 1)) [some (hs C m c),some (.d (gp n cs))]=rt (.d (.int n)):=(av (x:=.d (gp n cs)) rfl rfl).trans (aH rfl);have i2:e2 bz (af 1) (eC (.int 2)) [some (hs C m c),some (.d (gp n cs))]=rt (.d (tp cs)):=(av (x:=.d (gp n cs)) rfl rfl).trans (aH rfl);rw [cj ((oW t1).trans (show b9 _=_ from rfl))];rw [bD (zU i0 (aV (n:=3) (gw (fa:=af 0) (x:=hs C m c) rfl i1 i2) rfl rfl (wk C m c n cs hl)))];rfl
noncomputable def jF (col f n:Int):List D:=(List.range n.toNat).map fun (k:Nat)=>pr (f+(k:Int),col)
noncomputable def jM (n:Int) (cs:List Int):List D:=cs.map fun x=>pr (n,x)
theorem ua (C E:Addr) (m c col f n:Int) (h0:-1000<=n) (h1:n<=1000):cF C E [hs C m c,.d (rn col f n)]=if lD m c col f n=true then rt (.new (jF col f n)) else some (.error (.ref E)):=by
 unfold cF k6 eT;have hd:m9 ["house", "meld"] [hs C m c,.d (rn col f n)]=[some (hs C m c),some (.d (rn col f n))]:=rfl;rw [hd];have t0:(gm (fun δ=>bd ((aR (aw 2 (cT C)) (aa (af 0) (aa (af 1) ai))) δ) bR)) [some (hs C m c),some (.d (rn col f n))]=rt (!lD m c col f n):=
  sY (bf (aV (bQ (x:=hs C m c) (y:=.d (rn col f n)) rfl rfl) rfl rfl (v5 C m c col f n)))
 cases hr:lD m c col f n with
 |false=>
  rw [hr] at t0;have:gk (gm (fun δ=>bd ((aR (aw 2 (cT C)) (aa (af 0) (aa (af 1) ai))) δ) bR)) (fun _=>some (.error (.ref E))) b9 [some (hs C m c),some (.d (rn col f n))]=some (.error (.ref E)):=kJ t0;unfold bE;rw [this];rfl
 |true=>
  rw [hr] at t0;rw [cj ((oW t0).trans (show b9 _=_ from rfl))];have t1:(fun δ=>bd (e2 (iG false) (e2 bz (af 1) (eC (.int 0))) (eC (.str "run")) δ) bR) [some (hs C m c),some (.d (rn col f n))]=rt true:=
   bf ((av ((av (x:=.d (rn col f n)) rfl rfl).trans (aH rfl)) rfl).trans (pO tM))
  have i3:e2 bz (af 1) (eC (.int 3)) [some (hs C m c),some (.d (rn col f n))]=rt (.d (.int n)):=(av (x:=.d (rn col f n)) rfl rfl).trans (aH rfl);have c1:cH (ar 0) bN (bj (aa (e2 aB (e2 bz (af 1) (eC (.int 2))) (af 0)) (aa (e2 bz (af 1) (eC (.int 1))) ai))) (cK 1 [1] [some (hs C m c),some (.d (rn col f n))]) (dS 0 n.toNat)=some (jF col f n):=by
   unfold dS jF;refine du fun k hk=>?_;have q1:e2 bz (af 1) (eC (.int 2)) ((cK 1 [1] [some (hs C m c),some (.d (rn col f n))]).set 0 (some (.d (.int (0+(k:Int))))))=rt (.d (.int f)):=(av (x:=.d (rn col f n)) rfl rfl).trans (aH rfl);have q2:e2 bz (af 1) (eC (.int 1)) ((cK 1 [1] [some (hs C m c),some (.d (rn col f n))]).set 0 (some (.d (.int (0+(k:Int))))))=rt (.d (.int col)):=(av (x:=.d (rn col f n)) rfl rfl).trans (aH rfl);refine (jv ((av (y:=.d (.int (0+(k:Int)))) q1 rfl).trans (bF _ _)) q2).trans ?_;rw [Int.zero_add]; rfl
  rw [qM ((kJ t1).trans (bD (br (iQ (bp i3) h0 h1) (by rw [d6]; lia) c1)))];rfl
theorem uM (C E:Addr) (m c n:Int) (cs:List Int) (hl:cs.length<=900):cF C E [hs C m c,.d (gp n cs)]=if lz m c n cs=true then rt (.new (jM n cs)) else some (.error (.ref E)):=by
 unfold cF k6 eT;have hd:m9 ["house", "meld"] [hs C m c,.d (gp n cs)]=[some (hs C m c),some (.d (gp n cs))]:=rfl;rw [hd];have t0:(gm (fun δ=>bd ((aR (aw 2 (cT C)) (aa (af 0) (aa (af 1) ai))) δ) bR)) [some (hs C m c),some (.d (gp n cs))]=rt (!lz m c n cs):=
  sY (bf (aV (bQ (x:=hs C m c) (y:=.d (gp n cs)) rfl rfl) rfl rfl (we C m c n cs hl)))
 cases hr:lz m c n cs with
 |false=>
  rw [hr] at t0;have:gk (gm (fun δ=>bd ((aR (aw 2 (cT C)) (aa (af 0) (aa (af 1) ai))) δ) bR)) (fun _=>some (.error (.ref E))) b9 [some (hs C m c),some (.d (gp n cs))]=some (.error (.ref E)):=kJ t0;unfold bE;rw [this];rfl
 |true=>
  rw [hr] at t0;rw [cj ((oW t0).trans (show b9 _=_ from rfl))];have t1:(fun δ=>bd (e2 (iG false) (e2 bz (af 1) (eC (.int 0))) (eC (.str "run")) δ) bR) [some (hs C m c),some (.d (gp n cs))]=rt false:=
   bf ((av ((av (x:=.d (gp n cs)) rfl rfl).trans (aH rfl)) rfl).trans (pO sA))
  rw [cj ((oW t1).trans (show b9 _=_ from rfl))];have i2:e2 bz (af 1) (eC (.int 2)) [some (hs C m c),some (.d (gp n cs))]=rt (.d (tp cs)):=(av (x:=.d (gp n cs)) rfl rfl).trans (aH rfl);have c1:cH (ar 0) bN (bj (aa (e2 bz (af 1) (eC (.int 1))) (aa (af 0) ai))) (cK 1 [1] [some (hs C m c),some (.d (gp n cs))]) (cs.map PyData.int)=some (jM n cs):=by
   unfold jM;refine du fun x hx=>?_;have q1:e2 bz (af 1) (eC (.int 1)) ((cK 1 [1] [some (hs C m c),some (.d (gp n cs))]).set 0 (some (.d (.int x))))=rt (.d (.int n)):=(av (x:=.d (gp n cs)) rfl rfl).trans (aH rfl);exact jv q1 rfl
  rw [bD (br (vX i2) (by rw [List.length_map]; lia) c1)];rfl
theorem nV (col f n:Int) (h0:-1000<=n) (h1:n<=1000):a8 [.d (rn col f n)]=rt (.new (jF col f n)):=by
 unfold a8 iY eT;have hd:m9 ["meld"] [.d (rn col f n)]=[some (.d (rn col f n))]:=rfl;rw [hd];have t1:(fun δ=>bd (e2 (iG false) (e2 bz (af 0) (eC (.int 0))) (eC (.str "run")) δ) bR) [some (.d (rn col f n))]=rt true:=
  bf ((av ((av (x:=.d (rn col f n)) rfl rfl).trans (aH rfl)) rfl).trans (pO tM))
 have i3:e2 bz (af 0) (eC (.int 3)) [some (.d (rn col f n))]=rt (.d (.int n)):=(av (x:=.d (rn col f n)) rfl rfl).trans (aH rfl);have c1:cH (ar 0) bN (bj (aa (e2 aB (e2 bz (af 1) (eC (.int 2))) (af 0)) (aa (e2 bz (af 1) (eC (.int 1))) ai))) (cK 1 [0] [some (.d (rn col f n))]) (dS 0 n.toNat)=some (jF col f n):=by
  unfold dS jF;refine du fun k hk=>?_;have q1:e2 bz (af 1) (eC (.int 2)) ((cK 1 [0] [some (.d (rn col f n))]).set 0 (some (.d (.int (0+(k:Int))))))=rt (.d (.int f)):=(av (x:=.d (rn col f n)) rfl rfl).trans (aH rfl);have q2:e2 bz (af 1) (eC (.int 1)) ((cK 1 [0] [some (.d (rn col f n))]).set 0 (some (.d (.int (0+(k:Int))))))=rt (.d (.int col)):=(av (x:=.d (rn col f n)) rfl rfl).trans (aH rfl);refine (jv ((av (y:=.d (.int (0+(k:Int)))) q1 rfl).trans (bF _ _)) q2).trans ?_;rw [Int.zero_add]; rfl
 rw [qM ((kJ t1).trans (bD (br (iQ (bp i3) h0 h1) (by rw [d6]; lia) c1)))];rfl
theorem nK (n:Int) (cs:List Int) (hl:cs.length<=900):a8 [.d (gp n cs)]=rt (.new (jM n cs)):=by
 unfold a8 iY eT;have hd:m9 ["meld"] [.d (gp n cs)]=[some (.d (gp n cs))]:=rfl;rw [hd];have t1:(fun δ=>bd (e2 (iG false) (e2 bz (af 0) (eC (.int 0))) (eC (.str "run")) δ) bR) [some (.d (gp n cs))]=rt false:=
  bf ((av ((av (x:=.d (gp n cs)) rfl rfl).trans (aH rfl)) rfl).trans (pO sA))
 rw [cj ((oW t1).trans (show b9 _=_ from rfl))];have i2:e2 bz (af 0) (eC (.int 2)) [some (.d (gp n cs))]=rt (.d (tp cs)):=(av (x:=.d (gp n cs)) rfl rfl).trans (aH rfl);have c1:cH (ar 0) bN (bj (aa (e2 bz (af 1) (eC (.int 1))) (aa (af 0) ai))) (cK 1 [0] [some (.d (gp n cs))]) (cs.map PyData.int)=some (jM n cs):=by
  unfold jM;refine du fun x hx=>?_;have q1:e2 bz (af 1) (eC (.int 1)) ((cK 1 [0] [some (.d (gp n cs))]).set 0 (some (.d (.int x))))=rt (.d (.int n)):=(av (x:=.d (gp n cs)) rfl rfl).trans (aH rfl);exact jv q1 rfl
 rw [bD (br (vX i2) (by rw [List.length_map]; lia) c1)];rfl
theorem iR {α:Type} {f:α->D} {i N:Nat} {B:DS->M Out} {all:List α} (I:List α->DS->Prop)
  (h:∀pre a δ,a∈all->pre.length<N->I pre δ->∃δ',B (δ.set i (some (.d (f a))))=rt (.nx δ')/\I (pre++[a]) δ') :
  ∀(as pre:List α) (δ:DS),(∀a∈as,a∈all)->pre.length+as.length<=N->I pre δ->∃δ',dw (ar i) B (as.map f) δ=rt (.nx δ')/\I (pre++as) δ'
 |[],pre,δ,_,_,hI=>⟨δ,rfl,by rw [List.append_nil]; exact hI⟩
 |a::as,pre,δ,ha,hn,hI=>by
  simp only [List.length_cons] at hn;obtain ⟨δ1,e1,h1⟩:=h pre a δ (ha a K5) 0x1 hI;obtain ⟨δ2,e2,h2⟩:=iR I h as (pre++[a]) δ1 (fun x hx=>ha x (K3 _ hx)) (by simp; lia) h1;refine ⟨δ2,?_,by rw [List.append_assoc] at h2; exact h2⟩;rw [List.map_cons];unfold dw;have hs:ar i (f a) δ=some (δ.set i (some (.d (f a)))):=rfl;rw [hs,aP,ay,e1,ay,kY];exact e2
theorem rP (n:Nat):dS 0 n=(List.range n).map fun (k:Nat)=>PyData.int (k:Int):=by
 unfold dS;refine List.map_congr_left fun k _=>?_;rw [Int.zero_add]
noncomputable def dm (m col f0:Nat):List D:=(List.range (m-2-f0)).map fun (s:Nat)=>rn (col:Int) (1+(f0:Int)) (3+(s:Int))
noncomputable def fg (m col:Nat):List D:=(List.range m).flatMap (dm m col)
noncomputable def c7 (m c:Nat):List D:=(List.range c).flatMap (fg m)
theorem ij (m col f0:Nat) (h:m<=13):(dm m col f0).length<=13:=by unfold dm; simp; lia
theorem d5 {α:Type} {g:α->List D} {k:Nat} (h:∀a,(g a).length<=k):∀as:List α,(as.flatMap g).length<=k*as.length
 |[]=>by simp
 |a::as=>by
  have:=h a;have:=d5 h as;rw [List.flatMap_cons,List.length_append,List.length_cons,Nat.mul_succ]; lia
noncomputable def rF (C:Addr):DS->M Out:=(bE (aK 4 (e2 aB (e2 gSub (gY C "most" (af 0)) (af 3)) (eC (.int 1)))) (qz 1 (aU 1 [2,3] (mv (aa (eC (.int 3)) (aa (e2 aB (af 4) (eC (.int 1))) ai))) (ar 0) bN (bj (aa (eC (.str "run")) (aa (af 1) (aa (af 2) (aa (af 0) ai))))))))
noncomputable def rC (C:Addr):DS->M Out:=(cG (mv (aa (eC (.int 1)) (aa (e2 aB (gY C "most" (af 0)) (eC (.int 1))) ai))) (ar 3) (rF C))
section
variable (C:Addr) (m c:Nat)
theorem Ej (hm:m<=13) (c':Int) (col f0:Nat) (hf:f0<m) (base:List D) (hb:base.length<=1000) (x4:Option DV) :
  rF C [some (hs C m c'),some (.own base),some (.d (.int (col:Int))),some (.d (.int (1+(f0:Int)))),x4]=rt (.nx [some (hs C m c'),some (.own (base++dm m col f0)),some (.d (.int (col:Int))),some (.d (.int (1+(f0:Int)))),some (.d (.int ((m:Int)-(1+(f0:Int))+1)))]):=by
 have fl:gY C "most" (af 0) [some (hs C m c'),some (.own base),some (.d (.int (col:Int))),some (.d (.int (1+(f0:Int)))),x4]=rt (.d (.int m)):=kf C m c';have s1:aK 4 (e2 aB (e2 gSub (gY C "most" (af 0)) (af 3)) (eC (.int 1))) [some (hs C m c'),some (.own base),some (.d (.int (col:Int))),some (.d (.int (1+(f0:Int)))),x4]=rt (.nx [some (hs C m c'),some (.own base),some (.d (.int (col:Int))),some (.d (.int (1+(f0:Int)))),some (.d (.int ((m:Int)-(1+(f0:Int))+1)))]):=
  iH (x:=.d (.int ((m:Int)-(1+(f0:Int))+1))) ((av ((av (y:=.d (.int (1+(f0:Int)))) fl rfl).trans (cM _ _)) rfl).trans (bF _ _)) rfl
 unfold rF;rw [cj s1];have c1:cH (ar 0) bN (bj (aa (eC (.str "run")) (aa (af 1) (aa (af 2) (aa (af 0) ai))))) (cK 1 [2,3] [some (hs C m c'),some (.own base),some (.d (.int (col:Int))),some (.d (.int (1+(f0:Int)))),some (.d (.int ((m:Int)-(1+(f0:Int))+1)))]) (dS 3 ((m:Int)-(1+(f0:Int))+1+1-3).toNat)=some (dm m col f0):=by
  rw [show ((m:Int)-(1+(f0:Int))+1+1-3).toNat=m-2-f0 by lia];unfold dS dm;refine du fun s hs=>?_;exact Fp rfl rfl rfl rfl
 have e1:aU 1 [2,3] (mv (aa (eC (.int 3)) (aa (e2 aB (af 4) (eC (.int 1))) ai))) (ar 0) bN (bj (aa (eC (.str "run")) (aa (af 1) (aa (af 2) (aa (af 0) ai))))) [some (hs C m c'),some (.own base),some (.d (.int (col:Int))),some (.d (.int (1+(f0:Int)))),some (.d (.int ((m:Int)-(1+(f0:Int))+1)))]=rt (.new (dm m col f0)):=
  br (iX (bQ (x:=.d (.int 3)) rfl ((av (x:=.d (.int ((m:Int)-(1+(f0:Int))+1))) (y:=.d (.int 1)) rfl rfl).trans (bF _ _))) 0x1 0x1 0x1 0x1) (by rw [d6]; lia) c1
 rw [BJ (xs:=base) rfl e1 (by have:=ij m col f0 hm; lia)];rfl
theorem DN (hm:m<=13) (c':Int) (col:Nat) (base:List D) (hb:base.length<=700) (x3 x4:Option DV) :
  ∃y3 y4,rC C [some (hs C m c'),some (.own base),some (.d (.int (col:Int))),x3,x4]=rt (.nx [some (hs C m c'),some (.own (base++fg m col)),some (.d (.int (col:Int))),y3,y4]):=by
 have fl:e2 aB (gY C "most" (af 0)) (eC (.int 1)) [some (hs C m c'),some (.own base),some (.d (.int (col:Int))),x3,x4]=rt (.d (.int ((m:Int)+1))):=(av (kf C m c') rfl).trans (bF _ _);unfold rC cG;rw [iX (bQ (x:=.d (.int 1)) rfl fl) 0x1 0x1 0x1 0x1,ay,show ((m:Int)+1-1).toNat=m by lia];unfold dS;obtain ⟨δ',e,y3,y4,hδ⟩:=iR (f:=fun (k:Nat)=>PyData.int (1+(k:Int))) (i:=3) (N:=m) (B:=rF C) (all:=List.range m)
  (fun pre δ=>∃y3 y4,δ=[some (hs C m c'),some (.own (base++pre.flatMap (dm m col))),some (.d (.int (col:Int))),y3,y4])
  (fun pre a δ ha hp ⟨y3,y4,hδ⟩=>by
   subst hδ;have hl:=d5 (fun a=>ij m col a hm) pre;refine ⟨_,Ej C m hm c' col a (Ln.mp ha) (base++pre.flatMap (dm m col)) (by rw [List.length_append]; lia) y4,some (.d (.int (1+(a:Int)))),some (.d (.int ((m:Int)-(1+(a:Int))+1))),?_⟩;rw [List.flatMap_append,<-List.append_assoc,show [a].flatMap (dm m col)=dm m col a by simp])
  (List.range m) [] [some (hs C m c'),some (.own base),some (.d (.int (col:Int))),x3,x4] (fun _ h=>h) 0x4 ⟨x3,x4,0x4⟩
 refine ⟨y3,y4,?_⟩;rw [e,hδ];rfl
theorem m4 (col:Nat) (hm:m<=13):(fg m col).length<=169:=by
 have:=d5 (fun a=>ij m col a hm) (List.range m);rw [List.length_range] at this;unfold fg;lia
theorem wc (hm:m<=13) (hc:c<=4):fy C [hs C m c]=rt (.new (c7 m c)):=by
 unfold fy pY eT;have hd:m9 ["house", "found", "colour", "first", "room"] [hs C m c]=[some (hs C m c),none,none,none,none]:=rfl;rw [hd];have s1:aK 1 (cw ai) [some (hs C m c),none,none,none,none]=rt (.nx [some (hs C m c),some (.own []),none,none,none]):=rfl;rw [cj s1];obtain ⟨δ',e,y2,y3,y4,hδ⟩:=iR (f:=fun (k:Nat)=>PyData.int (k:Int)) (i:=2) (N:=c) (B:=rC C) (all:=List.range c)
  (fun pre δ=>∃y2 y3 y4,δ=[some (hs C m c),some (.own (pre.flatMap (fg m))),y2,y3,y4])
  (fun pre a δ ha hp ⟨y2,y3,y4,hδ⟩=>by
   subst hδ;have hl:=d5 (fun a=>m4 m a hm) pre;obtain ⟨z3,z4,e⟩:=DN C m hm c a (pre.flatMap (fg m)) 0x1 y3 y4;refine ⟨_,e,some (.d (.int (a:Int))),z3,z4,?_⟩;rw [List.flatMap_append,show [a].flatMap (fg m)=fg m a by simp])
  (List.range c) [] [some (hs C m c),some (.own []),none,none,none] (fun _ h=>h) 0x4 ⟨none,none,none,0x4⟩
 have s2:cG (rS (aa (gY C "colours" (af 0)) ai)) (ar 2) (rC C) [some (hs C m c),some (.own []),none,none,none]=rt (.nx [some (hs C m c),some (.own (c7 m c)),y2,y3,y4]):=by
  unfold cG;rw [iQ (bp (iD C m c)) 0x1 0x1,ay,show (c:Int).toNat=c by lia,rP,e,hδ];rfl
 rw [show (cG (mv (aa (eC (.int 1)) (aa (e2 aB (gY C "most" (af 0)) (eC (.int 1))) ai))) (ar 3) (bE (aK 4 (e2 aB (e2 gSub (gY C "most" (af 0)) (af 3)) (eC (.int 1)))) (qz 1 (aU 1 [2,3] (mv (aa (eC (.int 3)) (aa (e2 aB (af 4) (eC (.int 1))) ai))) (ar 0) bN (bj (aa (eC (.str "run")) (aa (af 1) (aa (af 2) (aa (af 0) ai)))))))))=rC C from rfl];rw [cj s2,bD (x:=.own (c7 m c)) rfl];rfl
end
noncomputable def j5 (c:Nat):List (List Int):=match c with
 |3=>[[0,1,2]]
 |4=>[[0,1,2],[0,1,2,3],[0,1,3],[0,2,3],[1,2,3]]
 |_=>[]
noncomputable def bq (ch:List (List Int)) (n0:Nat):List D:=ch.map fun k=>gp (1+(n0:Int)) k
noncomputable def cA (ch:List (List Int)) (m:Nat):List D:=(List.range m).flatMap (bq ch)
noncomputable def kC:DS->M Out:=(fun δ=>(aK 1 (e2 aB (af 1) (aU 1 [2] (hX (af 1)) (ar 0) bN (e2 aB (af 0) (bj (aa (af 1) ai)))))) (frz 1 δ))
noncomputable def kE:DS->M Out:=(fun δ=>(bx (aR sN (aa (aU 1 [] (hX (af 1)) (ar 0) (fun δ=>bd (e2 CF (aR c6 (aa (af 0) ai)) (eC (.int 3)) δ) bR) (af 0)) ai))) (frz 1 δ))
section
variable (C:Addr) (m:Int)
theorem yQ (x:DV) (c:Nat) (h1:1<=c) (h4:c<=4):bE (fun δ=>dw (ar 2) kC (dS 0 c) δ) kE [some x,some (.own [.tuple []]),none]=rt (.rt (.new ((j5 c).map tp))):=by
 match c,h1,h4 with
 |1,_,_=>kernel_rfl
 |2,_,_=>kernel_rfl
 |3,_,_=>kernel_rfl
 |4,_,_=>kernel_rfl
 |n+5,_,h=>lia
theorem yG (c:Nat) (h1:1<=c) (h4:c<=4):b8 C [hs C m c]=rt (.new ((j5 c).map tp)):=by
 unfold b8 iB eT;have hd:m9 ["house", "choices", "colour"] [hs C m c]=[some (hs C m c),none,none]:=rfl;rw [hd];have s1:aK 1 (cw (aa (bj ai) ai)) [some (hs C m c),none,none]=rt (.nx [some (hs C m c),some (.own [.tuple []]),none]):=rfl;rw [cj s1];have e:=yQ (hs C m c) c h1 h4;unfold bE at e ⊢;unfold cG;rw [iQ (bp (iD C m c)) 0x1 0x1,ay,show (c:Int).toNat=c by lia];exact (congrArg (fun z=>bd z zp) e).trans rfl
noncomputable def gB:DS->M Out:=(fun δ=>(qz 2 (aU 1 [3] (hX (af 1)) (ar 0) bN (bj (aa (eC (.str "group")) (aa (af 1) (aa (af 0) ai)))))) (frz 1 δ))
theorem gR {ch:List (List Int)} (M7:ch.length<=5) (n0:Nat):(bq ch n0).length<=5:=by unfold bq; simp; exact M7
theorem n6 (c:Nat):(j5 c).length<=5:=by
 match c with
 |0|1|2|3|4=>decide
 |n+5=>exact Lv _
theorem DW (x:DV) (ch:List (List Int)) (M7:ch.length<=5) (n0:Nat) (base:List D) (hb:base.length<=1000) (x1:DV) (h1:x1=.own (ch.map tp)\/x1=.d (.list (ch.map tp))) :
  gB [some x,some x1,some (.own base),some (.d (.int (1+(n0:Int))))]=rt (.nx [some x,some (.d (.list (ch.map tp))),some (.own (base++bq ch n0)),some (.d (.int (1+(n0:Int))))]):=by
 have hf:frz 1 [some x,some x1,some (.own base),some (.d (.int (1+(n0:Int))))]=[some x,some (.d (.list (ch.map tp))),some (.own base),some (.d (.int (1+(n0:Int))))]:=by
  rcases h1 with h|h <;> (subst h; rfl)
 unfold gB;rw [hf];have c1:cH (ar 0) bN (bj (aa (eC (.str "group")) (aa (af 1) (aa (af 0) ai)))) (cK 1 [3] [some x,some (.d (.list (ch.map tp))),some (.own base),some (.d (.int (1+(n0:Int))))]) (ch.map tp)=some (bq ch n0):=by
  unfold bq;refine du fun k hk=>?_;exact Ft rfl rfl rfl
 have e1:aU 1 [3] (hX (af 1)) (ar 0) bN (bj (aa (eC (.str "group")) (aa (af 1) (aa (af 0) ai)))) [some x,some (.d (.list (ch.map tp))),some (.own base),some (.d (.int (1+(n0:Int))))]=rt (.new (bq ch n0)):=
  br (fC rfl) (by rw [List.length_map]; lia) c1
 rw [BJ (xs:=base) rfl e1 (by have:=gR M7 n0; lia)];rfl
theorem sQ (m c:Nat) (hm:m<=13) (h1:1<=c) (h4:c<=4):dU C [hs C m c]=rt (.new (cA (j5 c) m)):=by
 unfold dU lX eT;have hd:m9 ["house", "choices", "found", "number"] [hs C m c]=[some (hs C m c),none,none,none]:=rfl;rw [hd];have s1:aK 1 (aR (aw 1 (b8 C)) (aa (af 0) ai)) [some (hs C m c),none,none,none]=rt (.nx [some (hs C m c),some (.own ((j5 c).map tp)),none,none]):=
  iH (x:=.new ((j5 c).map tp)) (aV (n:=1) (bp (x:=hs C m c) rfl) rfl rfl (yG C m c h1 h4)) rfl
 have s2:aK 2 (cw ai) [some (hs C m c),some (.own ((j5 c).map tp)),none,none]=rt (.nx [some (hs C m c),some (.own ((j5 c).map tp)),some (.own []),none]):=rfl;rw [cj s1,cj s2];obtain ⟨δ',e,y1,y3,hδ,_⟩:=iR (f:=fun (k:Nat)=>PyData.int (1+(k:Int))) (i:=3) (N:=m) (B:=gB) (all:=List.range m)
  (fun pre δ=>∃y1 y3,δ=[some (hs C m c),some y1,some (.own (pre.flatMap (bq (j5 c)))),y3]/\(y1=.own ((j5 c).map tp)\/y1=.d (.list ((j5 c).map tp))))
  (fun pre a δ ha hp ⟨y1,y3,hδ,hy⟩=>by
   subst hδ;have hl:=d5 (fun a=>gR (n6 c) a) pre;refine ⟨_,DW (hs C m c) (j5 c) (n6 c) a (pre.flatMap (bq (j5 c))) 0x1 y1 hy,_,some (.d (.int (1+(a:Int)))),?_,.inr rfl⟩;rw [List.flatMap_append,show [a].flatMap (bq (j5 c))=bq (j5 c) a by simp])
  (List.range m) [] [some (hs C m c),some (.own ((j5 c).map tp)),some (.own []),none] (fun _ h=>h) 0x4 ⟨.own ((j5 c).map tp),none,0x4,.inl rfl⟩
 have fl:e2 aB (gY C "most" (af 0)) (eC (.int 1)) [some (hs C m c),some (.own ((j5 c).map tp)),some (.own []),none]=rt (.d (.int ((m:Int)+1))):=(av (kf C m c) rfl).trans (bF _ _);have s3:cG (mv (aa (eC (.int 1)) (aa (e2 aB (gY C "most" (af 0)) (eC (.int 1))) ai))) (ar 3) gB [some (hs C m c),some (.own ((j5 c).map tp)),some (.own []),none]=rt (.nx [some (hs C m c),some y1,some (.own (cA (j5 c) m)),y3]):=by
  unfold cG;rw [iX (bQ (x:=.d (.int 1)) rfl fl) 0x1 0x1 0x1 0x1,ay,show ((m:Int)+1-1).toNat=m by lia];unfold dS;rw [e,hδ];rfl
 rw [show (fun δ=>(qz 2 (aU 1 [3] (hX (af 1)) (ar 0) bN (bj (aa (eC (.str "group")) (aa (af 1) (aa (af 0) ai)))))) (frz 1 δ))=gB from rfl];rw [cj s3,bD (x:=.own (cA (j5 c) m)) rfl];rfl
noncomputable def cW (m c:Nat):List D:=cA (j5 c) m++c7 m c
theorem jE {ch:List (List Int)} (M7:ch.length<=5) (m:Nat):(cA ch m).length<=5*m:=by
 have:=d5 (fun a=>gR M7 a) (List.range m)
 rwa [List.length_range] at this
theorem mK (m c:Nat) (hm:m<=13):(c7 m c).length<=169*c:=by
 have:=d5 (fun a=>m4 m a hm) (List.range c)
 rwa [List.length_range] at this
theorem C8 (m c:Nat) (hm:m<=13) (h1:1<=c) (h4:c<=4):lO C [hs C m c]=rt (.new (cW m c)):=by
 unfold lO xX eT;have hd:m9 ["house"] [hs C m c]=[some (hs C m c)]:=rfl;rw [hd];have e1:aR (aw 1 (dU C)) (aa (af 0) ai) [some (hs C m c)]=rt (.new (cA (j5 c) m)):=aV (n:=1) (bp (x:=hs C m c) rfl) rfl rfl (sQ C m c hm h1 h4);have e2':aR (aw 1 (fy C)) (aa (af 0) ai) [some (hs C m c)]=rt (.new (c7 m c)):=aV (n:=1) (bp (x:=hs C m c) rfl) rfl rfl (wc C m c hm h4);have l1:=jE (n6 c) m;have l2:=mK m c hm;rw [bD ((av e1 e2').trans (oI rfl rfl rfl 0x1))];rfl
end
variable {k:List Int}
theorem Bv {k':List Int} (h:tp k=tp k'):k=k':=by
 unfold tp at h;have h':=PyData.tuple.inj h;clear h
 induction k generalizing k' with
 |nil=>cases k' with
  |nil=>rfl
  |cons _ _=>cases h'
 |cons x r ih=>cases k' with
  |nil=>cases h'
  |cons y r'=>
   rw [List.map_cons,List.map_cons] at h';obtain ⟨h1,h2⟩:=List.cons.inj h';rw [PyData.int.inj h1,ih h2]
theorem Ac (k k':List Int):PyData.eqv (tp k) (tp k')=decide (k=k'):=by
 unfold tp PyData.eqv;exact pI k k'
theorem FK (a b:Int):PyData.eqv (.int a) (.int b)=decide (a=b):=by
 unfold PyData.eqv;by_cases h:a=b
 ·subst h; simp
 ·simp [h]
theorem wC (c f n c' f' n':Int):PyData.eqv (rn c f n) (rn c' f' n')=(decide (c=c')&&(decide (f=f')&&decide (n=n'))):=by
 unfold rn;simp only [PyData.eqv,PyData.eqvAll];have:(("run" : Str)==("run" : Str))=true:=by decide +kernel
 rw [this];simp [FK,PyData.eqv];rfl
theorem vO (n n':Int) (k k':List Int):PyData.eqv (gp n k) (gp n' k')=(decide (n=n')&&decide (k=k')):=by
 unfold gp;simp only [PyData.eqv,PyData.eqvAll];have:(("group" : Str)==("group" : Str))=true:=by decide +kernel
 rw [this,Ac];simp;rfl
theorem qU (c f n n':Int) (k':List Int):PyData.eqv (rn c f n) (gp n' k')=false:=by
 unfold gp rn;simp only [PyData.eqv,PyData.eqvAll];have:(("run" : Str)==("group" : Str))=false:=by decide +kernel
 rw [this]; rfl
theorem qY (c f n n':Int) (k':List Int):PyData.eqv (gp n' k') (rn c f n)=false:=by
 unfold gp rn;simp only [PyData.eqv,PyData.eqvAll];have:(("group" : Str)==("run" : Str))=false:=by decide +kernel
 rw [this]; rfl
theorem Kc (a b:Int) (xs ys:List D):cL true (.int a::xs) (.int b::ys)=if a=b then cL true xs ys else some (decide (a<b)):=by
 rw [cL,FK];by_cases h:a=b
 ·rw [if_pos h,if_pos (Lz h)]
 ·rw [if_neg h,if_neg (by simpa using h)];rfl
theorem yi (xs ys:List D) (t:Str) (h:PyData.eqv (.str t) (.str t)=true):cL true (.str t::xs) (.str t::ys)=cL true xs ys:=by
 rw [cL,if_pos h]
theorem yd (c f n c' f' n':Int):cD true (rn c f n) (rn c' f' n')=some (ll [c,f,n] [c',f',n']):=by
 unfold rn cD;rw [yi _ _ _ tM];exact oi [c,f,n] [c',f',n']
theorem BY (n n':Int) (k k':List Int):cD true (gp n k) (gp n' k')=some (ll (n::k) (n'::k')):=by
 unfold gp cD;rw [yi _ _ _ BN,Kc,bC];by_cases h:n=n'
 ·rw [if_pos h,if_pos h,cL,Ac];by_cases hk:k=k'
  ·subst hk;rw [if_pos 0x4,eG]; rfl
  ·rw [if_neg (by simpa using hk)];exact oi k k'
 ·rw [if_neg h,if_neg h]
theorem Jk (c f n n':Int) (k':List Int):cD true (gp n' k') (rn c f n)=some true:=by
 unfold gp rn cD;rw [cL,if_neg (by rw [sA]; exact Bool.false_ne_true)];show some (cS true "group" "run")=some true;congr 1
theorem FC (c f n n':Int) (k':List Int):cD true (rn c f n) (gp n' k')=some false:=by
 unfold gp rn cD;rw [cL,if_neg (by rw [HL]; exact Bool.false_ne_true)];show some (cS true "run" "group")=some false;congr 1
theorem si:∀k:List Int,zi (k.map PyData.int)=true
 |[]=>rfl
 |x::r=>by rw [List.map_cons,zi,si r]; rfl
theorem ID (c f n:Int):hZ (rn c f n)=true:=rfl
theorem Jg (n:Int) (k:List Int):hZ (gp n k)=true:=by
 unfold gp tp;simp [hZ,zi,si]
theorem rY:∀k:List Int,PyData.depthAll (k.map PyData.int)<=1
 |[]=>Lv _
 |x::r=>by
  have:=rY r;rw [List.map_cons,PyData.depthAll];show max _ _<=1;have:(PyData.int x).depth<=1:=by unfold PyData.depth; lia
  lia
theorem FO (c f n:Int):(rn c f n).depth<=50:=by
 unfold rn;simp [PyData.depth,PyData.depthAll]
theorem Fh (n:Int) (k:List Int):(gp n k).depth<=50:=by
 have:=rY k;unfold gp tp;simp [PyData.depth,PyData.depthAll];lia
def uB (x:D):Prop:=(∃c f n,x=rn c f n)\/(∃n k,x=gp n k)
variable {m c:Nat} {x:D}
theorem jm (h:x∈c7 m c):∃col f0 s:Nat,col<c/\f0<m/\s<m-2-f0/\x=rn (col:Int) (1+(f0:Int)) (3+(s:Int)):=by
 unfold c7 fg dm at h;simp only [List.mem_flatMap,List.mem_map,List.mem_range] at h;obtain ⟨col,h1,f0,h2,s,h3,rfl⟩:=h;exact ⟨col,f0,s,h1,h2,h3,rfl⟩
theorem Al {col f0 s:Nat} (h1:col<c) (h2:f0<m) (h3:s<m-2-f0):rn (col:Int) (1+(f0:Int)) (3+(s:Int))∈c7 m c:=by
 unfold c7 fg dm;simp only [List.mem_flatMap,List.mem_map,List.mem_range];exact ⟨col,h1,f0,h2,s,h3,rfl⟩
theorem gD {ch:List (List Int)} (h:x∈cA ch m):∃n0:Nat,∃k∈ch,n0<m/\x=gp (1+(n0:Int)) k:=by
 unfold cA bq at h;simp only [List.mem_flatMap,List.mem_map,List.mem_range] at h;obtain ⟨n0,h1,k,hk,rfl⟩:=h;exact ⟨n0,k,hk,h1,rfl⟩
theorem wa {ch:List (List Int)} {n0:Nat} (h1:n0<m) (hk:k∈ch):gp (1+(n0:Int)) k∈cA ch m:=by
 unfold cA bq;simp only [List.mem_flatMap,List.mem_map,List.mem_range];exact ⟨n0,h1,k,hk,rfl⟩
theorem j7 (h:x∈cW m c):uB x:=by
 rcases Lk.mp h with h|h
 ·obtain ⟨n0,k,_,_,e⟩:=gD h; exact .inr ⟨_,_,e⟩
 ·obtain ⟨col,f0,s,_,_,_,e⟩:=jm h; exact .inl ⟨_,_,_,e⟩
variable {y:D}
theorem uB.cmp (hx:uB x) (hy:uB y):(cD true x y).isSome=true:=by
 rcases hx with ⟨c,f,n,rfl⟩|⟨n,k,rfl⟩ <;> rcases hy with ⟨c',f',n',rfl⟩|⟨n',k',rfl⟩
 ·rw [yd]; rfl
 ·rw [FC]; rfl
 ·rw [Jk]; rfl
 ·rw [BY]; rfl
theorem uB.ok (hx:uB x):hZ x=true:=by
 rcases hx with ⟨c,f,n,rfl⟩|⟨n,k,rfl⟩
 ·exact ID ..
 ·exact Jg ..
theorem wb (h:∀x∈xs,uB x) (hl:xs.length<=10000):Cmp2 xs:=
 ⟨fun x hx=>(h x hx).ok,fun x hx y hy=>(h x hx).cmp (h y hy),.inr fun x hx=>by
  rcases h x hx with ⟨c,f,n,rfl⟩|⟨n,k,rfl⟩
  ·exact ⟨_,_,rfl⟩
  ·exact ⟨_,_,rfl⟩,fun x hx=>by
  rcases h x hx with ⟨c,f,n,rfl⟩|⟨n,k,rfl⟩
  ·exact FO ..
  ·exact Fh ..,hl⟩
theorem jW (hx:uB x) (hy:uB y) (h:cD true y x=some false):ll (lp y) (lp x)=false:=wy hy.ok hx.ok h
theorem Hc (c:Nat):(j5 c).Pairwise fun a b=>ll b a=false:=by
 match c with
 |0|1|2|3|4=>decide
 |n+5=>exact List.Pairwise.nil
theorem yM (m c:Nat):uL (cW m c):=by
 unfold uL cW;refine Ls.mpr ⟨?_,?_,fun x hx y hy=>?_⟩
 ·unfold cA;refine List.pairwise_flatMap.mpr ⟨fun n0 _=>?_,?_⟩
  ·unfold bq;refine List.pairwise_map.mpr ((Hc c).imp fun {a b} Nt=>?_);refine jW (.inr ⟨_,_,rfl⟩) (.inr ⟨_,_,rfl⟩) ?_;rw [BY,bC,if_pos rfl,Nt]
  ·refine List.pairwise_lt_range.imp fun {a b} Nt x hx y hy=>?_;unfold bq at hx hy;obtain ⟨k,_,rfl⟩:=Ll.mp hx;obtain ⟨k',_,rfl⟩:=Ll.mp hy;refine jW (.inr ⟨_,_,rfl⟩) (.inr ⟨_,_,rfl⟩) ?_;rw [BY,bC,if_neg 0x1,Ly 0x1]
 ·unfold c7;refine List.pairwise_flatMap.mpr ⟨fun col _=>?_,?_⟩
  ·unfold fg;refine List.pairwise_flatMap.mpr ⟨fun f0 _=>?_,?_⟩
   ·unfold dm;refine List.pairwise_map.mpr (List.pairwise_lt_range.imp fun {a b} Nt=>?_);refine jW (.inl ⟨_,_,_,rfl⟩) (.inl ⟨_,_,_,rfl⟩) ?_;rw [yd,bC,if_pos rfl,bC,if_pos rfl,bC,if_neg 0x1,Ly 0x1]
   ·refine List.pairwise_lt_range.imp fun {a b} Nt x hx y hy=>?_;unfold dm at hx hy;obtain ⟨k,_,rfl⟩:=Ll.mp hx;obtain ⟨k',_,rfl⟩:=Ll.mp hy;refine jW (.inl ⟨_,_,_,rfl⟩) (.inl ⟨_,_,_,rfl⟩) ?_;rw [yd,bC,if_pos rfl,bC,if_neg 0x1,Ly 0x1]
  ·refine List.pairwise_lt_range.imp fun {a b} Nt x hx y hy=>?_;unfold fg dm at hx hy;simp only [List.mem_flatMap,List.mem_map,List.mem_range] at hx hy;obtain ⟨_,_,_,_,rfl⟩:=hx;obtain ⟨_,_,_,_,rfl⟩:=hy;refine jW (.inl ⟨_,_,_,rfl⟩) (.inl ⟨_,_,_,rfl⟩) ?_;rw [yd,bC,if_neg 0x1,Ly 0x1]
 ·obtain ⟨_,_,_,_,rfl⟩:=gD hx;obtain ⟨_,_,_,_,_,_,rfl⟩:=jm hy;exact jW (.inr ⟨_,_,rfl⟩) (.inl ⟨_,_,_,rfl⟩) (FC ..)
theorem wm {raw:List D} (h:raw.Perm (cW m c)):se raw=cW m c:=
 o7 ((dW raw).trans h) (lB raw) (yM m c) (fun x hx=>(j7 (h.mem_iff.mp ((dW raw).mem_iff.mp hx))).ok)
  fun x hx y hy=>(j7 (h.mem_iff.mp ((dW raw).mem_iff.mp hx))).cmp (j7 (h.mem_iff.mp ((dW raw).mem_iff.mp hy)))
theorem t5 (m c:Nat) (col f n:Int):((cW m c).any fun z=>PyData.eqv z (rn col f n))=lD m c col f n:=by
 apply Bool.eq_iff_iff.mpr;rw [List.any_eq_true];constructor
 ·rintro ⟨x,hx,he⟩;rcases Lk.mp hx with h|h
  ·obtain ⟨n0,k,_,_,rfl⟩:=gD h;rw [qY] at he; cases he
  ·obtain ⟨col',f0,s,h1,h2,h3,rfl⟩:=jm h;rw [wC] at he;simp only [Bool.and_eq_true,decide_eq_true_eq] at he;obtain ⟨rfl,rfl,rfl⟩:=he;unfold lD bt;simp only [Bool.and_eq_true,decide_eq_true_eq];lia
 ·intro h;unfold lD bt at h;simp only [Bool.and_eq_true,decide_eq_true_eq] at h;refine ⟨rn ((col.toNat:Nat):Int) (1+(((f-1).toNat:Nat):Int)) (3+(((n-3).toNat:Nat):Int)),K7 _ (Al 0x1 0x1 0x1),?_⟩;rw [wC];simp only [Bool.and_eq_true,decide_eq_true_eq];lia
theorem tY (m c:Nat) (n:Int) (k:List Int):((cW m c).any fun z=>PyData.eqv z (gp n k))=(decide (1<=n)&&decide (n<=(m:Int))&&decide (k∈j5 c)):=by
 apply Bool.eq_iff_iff.mpr;rw [List.any_eq_true];constructor
 ·rintro ⟨x,hx,he⟩;rcases Lk.mp hx with h|h
  ·obtain ⟨n0,k',hk,h1,rfl⟩:=gD h;rw [vO] at he;simp only [Bool.and_eq_true,decide_eq_true_eq] at he ⊢;obtain ⟨rfl,rfl⟩:=he;exact ⟨0x1,hk⟩
  ·obtain ⟨col',f0,s,h1,h2,h3,rfl⟩:=jm h;rw [qU] at he; cases he
 ·intro h;simp only [Bool.and_eq_true,decide_eq_true_eq] at h;refine ⟨gp (1+(((n-1).toNat:Nat):Int)) k,K8 _ (wa 0x1 h.2),?_⟩;rw [vO];simp only [Bool.and_eq_true,decide_eq_true_eq];exact ⟨0x1,trivial⟩
noncomputable def xY (c:Nat) (k:List Int):Bool:=decide (3<=k.length)&&k.all (fun x=>decide (0<=x)&&decide (x<(c:Int)))&&asc k
theorem Dr (m c:Nat) (n:Int) (k:List Int) (h:xY c k=decide (k∈j5 c)):lz m c n k=(decide (1<=n)&&decide (n<=(m:Int))&&decide (k∈j5 c)):=by
 rw [<-h];unfold lz xY bt
 match k with
 |[]=>simp
 |x::r=>
  by_cases hn:(decide (1<=n)&&decide (n<=(m:Int)))=true
  ·simp only [hn,Bool.true_and]
  ·have Oa:(decide (1<=n)&&decide (n<=(m:Int)))=false:=by simpa using hn
   simp only [Oa,Bool.false_and,List.all_cons,Bool.and_false]
noncomputable def lF:DS->M Out:=(aK 2 (e2 aB (af 2) (aU 1 [3,4] (mv (aa (e2 aB (af 4) (eC (.int 2))) (aa (e2 aB (af 0) (eC (.int 1))) ai))) (ar 0) bN (bj (aa (eC (.str "run")) (aa (af 1) (aa (af 2) (aa (e2 aB (e2 gSub (af 0) (af 2)) (eC (.int 1))) ai))))))))
noncomputable def lC:DS->M Out:=(cG (mv (aa (eC (.int 1)) (aa (e2 aB (af 0) (eC (.int 1))) ai))) (ar 4) lF)
noncomputable def lK:DS->M Out:=(fun δ=>(aK 5 (e2 aB (af 5) (aU 1 [3] (hX (af 5)) (ar 0) bN (e2 aB (af 0) (cw (aa (af 1) ai)))))) (frz 5 δ))
noncomputable def lG:DS->M Out:=(fun δ=>(aK 2 (e2 aB (af 2) (aU 1 [6] (hX (af 5)) (ar 0) (fun δ=>bd (e2 wz (aR c6 (aa (af 0) ai)) (eC (.int 2)) δ) bR) (bj (aa (eC (.str "group")) (aa (af 1) (aa (aR lV (aa (af 0) ai)) ai))))))) (frz 5 δ))
noncomputable def fW:Nat->List (List Int)
 |0=>[[]]
 |c+1=>fW c++(fW c).map fun k=>k++[(c:Int)]
noncomputable def ls (k:List Int):D:=.list (k.map PyData.int)
noncomputable def CJ (c:Nat):List (List Int):=(fW c).filter fun k=>decide (2<k.length)
section
variable (m c:Nat)
theorem ED (hm:m<=13) (x1:Option DV) (col f0:Nat) (hf:f0<m) (base:List D) (hb:base.length<=1000) (x5 x6:Option DV) :
  lF [some (.d (.int (m:Int))),x1,some (.own base),some (.d (.int (col:Int))),some (.d (.int (1+(f0:Int)))),x5,x6]=rt (.nx [some (.d (.int (m:Int))),x1,some (.own (base++dm m col f0)),some (.d (.int (col:Int))),some (.d (.int (1+(f0:Int)))),x5,x6]):=by
 have c1:cH (ar 0) bN (bj (aa (eC (.str "run")) (aa (af 1) (aa (af 2) (aa (e2 aB (e2 gSub (af 0) (af 2)) (eC (.int 1))) ai))))) (cK 1 [3,4] [some (.d (.int (m:Int))),x1,some (.own base),some (.d (.int (col:Int))),some (.d (.int (1+(f0:Int)))),x5,x6]) (dS (1+(f0:Int)+2) ((m:Int)+1-(1+(f0:Int)+2)).toNat)=some (dm m col f0):=by
  rw [show ((m:Int)+1-(1+(f0:Int)+2)).toNat=m-2-f0 by lia];unfold dS dm;refine du fun s hs=>?_;have q:e2 aB (e2 gSub (af 0) (af 2)) (eC (.int 1)) ((cK 1 [3,4] [some (.d (.int (m:Int))),x1,some (.own base),some (.d (.int (col:Int))),some (.d (.int (1+(f0:Int)))),x5,x6]).set 0 (some (.d (.int (1+(f0:Int)+2+(s:Int))))))=rt (.d (.int (3+(s:Int)))):=by
   refine (av ((av (x:=.d (.int (1+(f0:Int)+2+(s:Int)))) (y:=.d (.int (1+(f0:Int)))) rfl rfl).trans (cM _ _)) rfl).trans ((bF _ _).trans ?_);rw [show (1+(f0:Int)+2+(s:Int)-(1+(f0:Int))+1)=3+(s:Int) by lia]
  exact Fp rfl rfl rfl q
 have e1:aU 1 [3,4] (mv (aa (e2 aB (af 4) (eC (.int 2))) (aa (e2 aB (af 0) (eC (.int 1))) ai))) (ar 0) bN (bj (aa (eC (.str "run")) (aa (af 1) (aa (af 2) (aa (e2 aB (e2 gSub (af 0) (af 2)) (eC (.int 1))) ai))))) [some (.d (.int (m:Int))),x1,some (.own base),some (.d (.int (col:Int))),some (.d (.int (1+(f0:Int)))),x5,x6]=rt (.new (dm m col f0)):=
  br (iX (bQ ((av (x:=.d (.int (1+(f0:Int)))) (y:=.d (.int 2)) rfl rfl).trans (bF _ _)) ((av (x:=.d (.int (m:Int))) (y:=.d (.int 1)) rfl rfl).trans (bF _ _))) 0x1 0x1 0x1 0x1) (by rw [d6]; lia) c1
 unfold lF;rw [iH ((av (x:=.own base) rfl e1).trans (oI rfl rfl rfl (by have:=ij m col f0 hm; lia))) rfl];rfl
theorem EN (hm:m<=13) (x1:Option DV) (col:Nat) (base:List D) (hb:base.length<=700) (x4 x5 x6:Option DV) :
  ∃y4,lC [some (.d (.int (m:Int))),x1,some (.own base),some (.d (.int (col:Int))),x4,x5,x6]=rt (.nx [some (.d (.int (m:Int))),x1,some (.own (base++fg m col)),some (.d (.int (col:Int))),y4,x5,x6]):=by
 unfold lC cG;rw [iX (bQ (x:=.d (.int 1)) rfl ((av (x:=.d (.int (m:Int))) (y:=.d (.int 1)) rfl rfl).trans (bF _ _))) 0x1 0x1 0x1 0x1,ay,show ((m:Int)+1-1).toNat=m by lia];unfold dS;obtain ⟨δ',e,y4,hδ⟩:=iR (f:=fun (k:Nat)=>PyData.int (1+(k:Int))) (i:=4) (N:=m) (B:=lF) (all:=List.range m)
  (fun pre δ=>∃y4,δ=[some (.d (.int (m:Int))),x1,some (.own (base++pre.flatMap (dm m col))),some (.d (.int (col:Int))),y4,x5,x6])
  (fun pre a δ ha hp ⟨y4,hδ⟩=>by
   subst hδ;have hl:=d5 (fun a=>ij m col a hm) pre;refine ⟨_,ED m hm x1 col a (Ln.mp ha) (base++pre.flatMap (dm m col)) (by rw [List.length_append]; lia) x5 x6,some (.d (.int (1+(a:Int)))),?_⟩;rw [List.flatMap_append,<-List.append_assoc,show [a].flatMap (dm m col)=dm m col a by simp])
  (List.range m) [] [some (.d (.int (m:Int))),x1,some (.own base),some (.d (.int (col:Int))),x4,x5,x6] (fun _ h=>h) 0x4 ⟨x4,0x4⟩
 refine ⟨y4,?_⟩;rw [e,hδ];rfl
theorem vK (x0 x1 x2 x3 x4 x6:Option DV) (h1:1<=c) (h4:c<=4):∃y3,dw (ar 3) lK (dS 0 c) [x0,x1,x2,x3,x4,some (.own [.list []]),x6]=rt (.nx [x0,x1,x2,y3,x4,some (.own ((fW c).map ls)),x6]):=by
 match c,h1,h4 with
 |1,_,_=>exact ⟨some (.d (.int 0)),by kernel_rfl⟩
 |2,_,_=>exact ⟨some (.d (.int 1)),by kernel_rfl⟩
 |3,_,_=>exact ⟨some (.d (.int 2)),by kernel_rfl⟩
 |4,_,_=>exact ⟨some (.d (.int 3)),by kernel_rfl⟩
 |n+5,_,h=>lia
theorem De (k:List Int):c6 [.d (ls k)]=rt (.d (.int (k.length:Int))):=by
 show rt (DV.d (.int ((k.map PyData.int).length:Int)))=_;rw [List.length_map]
theorem C3 (ks:List (List Int)) (hk:ks.length<=100) (x0 x1 x3 x4:Option DV) (n0:Nat) (base:List D) (hb:base.length<=1000) (x5:DV) (h5:x5=.own (ks.map ls)\/x5=.d (.list (ks.map ls))) :
  lG [x0,x1,some (.own base),x3,x4,some x5,some (.d (.int (1+(n0:Int))))]=rt (.nx [x0,x1,some (.own (base++bq (ks.filter fun k=>decide (2<k.length)) n0)),x3,x4,some (.d (.list (ks.map ls))),some (.d (.int (1+(n0:Int))))]):=by
 have hf:frz 5 [x0,x1,some (.own base),x3,x4,some x5,some (.d (.int (1+(n0:Int))))]=[x0,x1,some (.own base),x3,x4,some (.d (.list (ks.map ls))),some (.d (.int (1+(n0:Int))))]:=by
  rcases h5 with h|h <;> (subst h; rfl)
 unfold lG;rw [hf];have c1:cH (ar 0) (fun δ=>bd (e2 wz (aR c6 (aa (af 0) ai)) (eC (.int 2)) δ) bR) (bj (aa (eC (.str "group")) (aa (af 1) (aa (aR lV (aa (af 0) ai)) ai)))) (cK 1 [6] [x0,x1,some (.own base),x3,x4,some (.d (.list (ks.map ls))),some (.d (.int (1+(n0:Int))))]) (ks.map ls)=some (bq (ks.filter fun k=>decide (2<k.length)) n0):=by
  unfold bq;refine eF fun k hk=>⟨?_,?_⟩
  ·refine (bf ((av (y:=.d (.int 2)) ((cC (bp (x:=.d (ls k)) rfl)).trans (De k)) rfl).trans (ka _ _))).trans ?_;rw [show decide ((2:Int)<(k.length:Int))=decide (2<k.length) from decide_eq_decide.mpr 0x1]
  ·exact Ft rfl rfl ((cC (bp (x:=.d (ls k)) rfl)).trans rfl)
 have e1:aU 1 [6] (hX (af 5)) (ar 0) (fun δ=>bd (e2 wz (aR c6 (aa (af 0) ai)) (eC (.int 2)) δ) bR) (bj (aa (eC (.str "group")) (aa (af 1) (aa (aR lV (aa (af 0) ai)) ai)))) [x0,x1,some (.own base),x3,x4,some (.d (.list (ks.map ls))),some (.d (.int (1+(n0:Int))))]=rt (.new (bq (ks.filter fun k=>decide (2<k.length)) n0)):=
  br (fC rfl) (by rw [List.length_map]; lia) c1
 have hl:(bq (ks.filter fun k=>decide (2<k.length)) n0).length<=100:=by
  unfold bq;rw [List.length_map];exact Lw (List.length_filter_le _ _) hk
 rw [iH ((av (x:=.own base) rfl e1).trans (oI rfl rfl rfl 0x1)) rfl];rfl
theorem yS (h4:c<=4):(fW c).length<=100:=by
 match c,h4 with
 |0,_|1,_|2,_|3,_|4,_=>decide
 |n+5,h=>lia
theorem yk (h4:c<=4):(CJ c).length<=5:=by
 match c,h4 with
 |0,_|1,_|2,_|3,_|4,_=>decide
 |n+5,h=>lia
theorem BG (h4:c<=4):(CJ c).Perm (j5 c):=by
 match c,h4 with
 |0,_|1,_|2,_|3,_|4,_=>decide
 |n+5,h=>lia
theorem qV {α:Type} {f g:α->List D} (h:∀a,(f a).Perm (g a)):∀as:List α,(as.flatMap f).Perm (as.flatMap g)
 |[]=>.refl _
 |a::as=>by
  rw [List.flatMap_cons,List.flatMap_cons];exact (h a).append (qV h as)
theorem B4 (h4:c<=4):(c7 m c++cA (CJ c) m).Perm (cW m c):=by
 refine List.perm_append_comm.trans ?_;unfold cW;refine List.Perm.append_right _ ?_;unfold cA;refine qV (fun n0=>?_) _;unfold bq;exact (BG c h4).map _
theorem uC (hm:m<=13) (h1:1<=c) (h4:c<=4):eX [.d (.int (m:Int)),.d (.int (c:Int))]=rt (.new (cW m c)):=by
 unfold eX mh eT;have hd:m9 ["most", "colours", "found", "colour", "first", "kinds", "number"] [.d (.int (m:Int)),.d (.int (c:Int))]=[some (.d (.int (m:Int))),some (.d (.int (c:Int))),none,none,none,none,none]:=rfl;rw [hd];have s1:aK 2 (cw ai) [some (.d (.int (m:Int))),some (.d (.int (c:Int))),none,none,none,none,none]=rt (.nx [some (.d (.int (m:Int))),some (.d (.int (c:Int))),some (.own []),none,none,none,none]):=rfl;rw [cj s1];obtain ⟨δ',e,y3,y4,hδ⟩:=iR (f:=fun (k:Nat)=>PyData.int (k:Int)) (i:=3) (N:=c) (B:=lC) (all:=List.range c)
  (fun pre δ=>∃y3 y4,δ=[some (.d (.int (m:Int))),some (.d (.int (c:Int))),some (.own (pre.flatMap (fg m))),y3,y4,none,none])
  (fun pre a δ ha hp ⟨y3,y4,hδ⟩=>by
   subst hδ;have hl:=d5 (fun a=>m4 m a hm) pre;obtain ⟨z4,e⟩:=EN m hm (some (.d (.int (c:Int)))) a (pre.flatMap (fg m)) 0x1 y4 none none;refine ⟨_,e,some (.d (.int (a:Int))),z4,?_⟩;rw [List.flatMap_append,show [a].flatMap (fg m)=fg m a by simp])
  (List.range c) [] [some (.d (.int (m:Int))),some (.d (.int (c:Int))),some (.own []),none,none,none,none] (fun _ h=>h) 0x4 ⟨none,none,0x4⟩
 have s2:cG (rS (aa (af 1) ai)) (ar 3) lC [some (.d (.int (m:Int))),some (.d (.int (c:Int))),some (.own []),none,none,none,none]=rt (.nx [some (.d (.int (m:Int))),some (.d (.int (c:Int))),some (.own (c7 m c)),y3,y4,none,none]):=by
  unfold cG;rw [iQ (bp (x:=.d (.int (c:Int))) rfl) 0x1 0x1,ay,show (c:Int).toNat=c by lia,rP,e,hδ];rfl
 rw [show (cG (mv (aa (eC (.int 1)) (aa (e2 aB (af 0) (eC (.int 1))) ai))) (ar 4) (aK 2 (e2 aB (af 2) (aU 1 [3,4] (mv (aa (e2 aB (af 4) (eC (.int 2))) (aa (e2 aB (af 0) (eC (.int 1))) ai))) (ar 0) bN (bj (aa (eC (.str "run")) (aa (af 1) (aa (af 2) (aa (e2 aB (e2 gSub (af 0) (af 2)) (eC (.int 1))) ai)))))))))=lC from rfl];rw [cj s2];have s3:aK 5 (cw (aa (cw ai) ai)) [some (.d (.int (m:Int))),some (.d (.int (c:Int))),some (.own (c7 m c)),y3,y4,none,none]=rt (.nx [some (.d (.int (m:Int))),some (.d (.int (c:Int))),some (.own (c7 m c)),y3,y4,some (.own [.list []]),none]):=rfl;rw [cj s3];obtain ⟨z3,ek⟩:=vK c (some (.d (.int (m:Int)))) (some (.d (.int (c:Int)))) (some (.own (c7 m c))) y3 y4 none h1 h4;have s4:cG (rS (aa (af 1) ai)) (ar 3) lK [some (.d (.int (m:Int))),some (.d (.int (c:Int))),some (.own (c7 m c)),y3,y4,some (.own [.list []]),none]=rt (.nx [some (.d (.int (m:Int))),some (.d (.int (c:Int))),some (.own (c7 m c)),z3,y4,some (.own ((fW c).map ls)),none]):=by
  unfold cG;rw [iQ (bp (x:=.d (.int (c:Int))) rfl) 0x1 0x1,ay,show (c:Int).toNat=c by lia,ek]
 rw [show (fun δ=>(aK 5 (e2 aB (af 5) (aU 1 [3] (hX (af 5)) (ar 0) bN (e2 aB (af 0) (cw (aa (af 1) ai)))))) (frz 5 δ))=lK from rfl];rw [cj s4];have lr:=mK m c hm;obtain ⟨δ2,eg,w5,w6,hδ2,_⟩:=iR (f:=fun (k:Nat)=>PyData.int (1+(k:Int))) (i:=6) (N:=m) (B:=lG) (all:=List.range m)
  (fun pre δ=>∃w5 w6,δ=[some (.d (.int (m:Int))),some (.d (.int (c:Int))),some (.own (c7 m c++pre.flatMap (bq (CJ c)))),z3,y4,some w5,w6]/\(w5=.own ((fW c).map ls)\/w5=.d (.list ((fW c).map ls))))
  (fun pre a δ ha hp ⟨w5,w6,hδ,hw⟩=>by
   subst hδ;have hl:=d5 (fun a=>gR (yk c h4) a) pre;refine ⟨_,C3 (fW c) (yS c h4) _ _ _ _ a (c7 m c++pre.flatMap (bq (CJ c))) (by rw [List.length_append]; lia) w5 hw,_,some (.d (.int (1+(a:Int)))),?_,.inr rfl⟩;rw [List.flatMap_append,show [a].flatMap (bq (CJ c))=bq (CJ c) a by simp,<-List.append_assoc];rfl)
  (List.range m) [] [some (.d (.int (m:Int))),some (.d (.int (c:Int))),some (.own (c7 m c)),z3,y4,some (.own ((fW c).map ls)),none] (fun _ h=>h) 0x4 ⟨.own ((fW c).map ls),none,0x4,.inl rfl⟩
 have s5:cG (mv (aa (eC (.int 1)) (aa (e2 aB (af 0) (eC (.int 1))) ai))) (ar 6) lG [some (.d (.int (m:Int))),some (.d (.int (c:Int))),some (.own (c7 m c)),z3,y4,some (.own ((fW c).map ls)),none]=rt (.nx [some (.d (.int (m:Int))),some (.d (.int (c:Int))),some (.own (c7 m c++cA (CJ c) m)),z3,y4,some w5,w6]):=by
  unfold cG;rw [iX (bQ (x:=.d (.int 1)) rfl ((av (x:=.d (.int (m:Int))) (y:=.d (.int 1)) rfl rfl).trans (bF _ _))) 0x1 0x1 0x1 0x1,ay,show ((m:Int)+1-1).toNat=m by lia];unfold dS;rw [eg,hδ2];rfl
 rw [show (fun δ=>(aK 2 (e2 aB (af 2) (aU 1 [6] (hX (af 5)) (ar 0) (fun δ=>bd (e2 wz (aR c6 (aa (af 0) ai)) (eC (.int 2)) δ) bR) (bj (aa (eC (.str "group")) (aa (af 1) (aa (aR lV (aa (af 0) ai)) ai))))))) (frz 5 δ))=lG from rfl];rw [cj s5];have hp:=B4 m c h4;have lg:=jE (yk c h4) m;have e9:aR oZ (aa (af 2) ai) [some (.d (.int (m:Int))),some (.d (.int (c:Int))),some (.own (c7 m c++cA (CJ c) m)),z3,y4,some w5,w6]=rt (.new (cW m c)):=by
  refine (cC (bp (x:=.own (c7 m c++cA (CJ c) m)) rfl)).trans ?_;unfold oZ;simp only;rw [oE,aP,ay,if_pos (wb (fun x hx=>j7 (hp.mem_iff.mp hx)) (by rw [List.length_append]; lia)),wm hp]
 rw [bD e9];rfl
end
section
variable {F G:DS->M Out} {f fa fb fc:DS->M DV} {fr:DS->M (List DV)} {gc:DS->M Bool} {g:DV->DV->M DV} {δ δ':DS} {x y z:DV} {k:Bool} {r:M Out}
theorem gM (h:F δ=rt (.nx δ')) (h2:G δ'=r):bE F G δ=r:=(cj h).trans h2
theorem JD (h:gc δ=rt true) (h2:F δ=r):gk gc F G δ=r:=(mm h).trans h2
theorem FV (h:gc δ=rt false) (h2:G δ=r):gk gc F G δ=r:=(mm h).trans h2
theorem eE {i:Nat} (h:f δ=rt x) (ha:va x=some y) (h2:δ.set i (some y)=δ'):aK i f δ=rt (.nx δ'):=by rw [iH h ha,h2]
theorem lU {n:Nat} {fm:List DV->M DV} {xs ys:List DV} {w:M DV} (h:fr δ=rt xs) (ha:args xs=some ys) (hn:ys.length=n) (hm:fm ys=w):aR (jH n fm) fr δ=w:=by
 rw [cC h];unfold jH;rw [ha,aP,ay,if_pos hn,hm]
theorem E7 (h:f δ=rt x):o5 f δ=rt (.nx δ):=by unfold o5; rw [h]; rfl
theorem d9 {N:List Str} {xs:List DV} (h:F (m9 N xs)=rt (.rt x)):eT N F xs=rt (res x):=by unfold eT; rw [h]; rfl
variable {ga gb:DS->M Bool} {b:Bool}
theorem uU (h1:ga δ=rt false) (h2:gb δ=rt b):yw ga gb δ=rt b:=by unfold yw; rw [h1,ay]; exact h2
theorem Gq (h1:ga δ=rt false):kh ga gb δ=rt false:=by unfold kh; rw [h1]; rfl
theorem E2 (h1:ga δ=rt true) (h2:gb δ=rt b):kh ga gb δ=rt b:=by unfold kh; rw [h1,ay]; exact h2
theorem oG {a:Bool} (h1:ga δ=rt a) (hb:(!a)=b):gm ga δ=rt b:=by rw [sY h1,hb]
end
theorem vm {i:Nat} {B:DS->M Out} {I:DS->Prop}:∀(xs:List D) (δ:DS),(∀x∈xs,∀δ,I δ->∃δ',B (δ.set i (some (.d x)))=rt (.nx δ')/\I δ')->I δ->∃δ',dw (ar i) B xs δ=rt (.nx δ')/\I δ'
 |[],δ,_,hI=>⟨δ,rfl,hI⟩
 |x::xs,δ,h,hI=>by
  obtain ⟨δ1,e1,h1⟩:=h x K5 δ hI;obtain ⟨δ2,e2,h2⟩:=vm xs δ1 (fun y hy=>h y (K3 _ hy)) h1;refine ⟨δ2,?_,h2⟩;unfold dw;have hs:ar i x δ=some (δ.set i (some (.d x))):=rfl;rw [hs,aP,ay,e1,ay,kY];exact e2
theorem mB {fi:DS->M (List D)} {sf:D->DS->Option DS} {B:DS->M Out} {r:M Out} (h:fi δ=rt xs) (h2:dw sf B xs δ=r):cG fi sf B δ=r:=by
 unfold cG;rw [h,ay,h2]
theorem KE {C CB:Addr} {fb:DS->M DV} {m c:Int} (h1:fa δ=rt (.d (.int m))) (h2:fb δ=rt (.d (.int c))) (h3:3<=m) (Oj:m<=13) (h4:1<=c) (h5:c<=4):Hy C CB (aa fa (aa fb ai)) δ=rt (hs C m c):=by
 unfold Hy;rw [cC (bQ h1 h2)];show (if good m c=true then _ else _)=_;rw [if_pos (by unfold good; simp; lia)];rfl
section
variable {F G:DS->M Out} {B:DS->M Out} {f fe:DS->M DV} {fi:DS->M (List D)} {gc:DS->M Bool} {δ:DS} {r:M Out} {i k:Nat} {js:List Nat}
theorem Kf {I:DS->Prop} (h:fi δ=rt xs) (hI:I δ) (ht:∀x∈xs,∀δ,I δ->∃δ',B (δ.set i (some (.d x)))=rt (.nx δ')/\I δ') (kk:∀δ',I δ'->G δ'=r):bE (cG fi (ar i) B) G δ=r:=by
 obtain ⟨δ',e,h'⟩:=vm (i:=i) (B:=B) xs δ ht hI;exact gM (mB h e) (kk δ' h')
end
theorem Ce {T t:String} {x:DV} {b:Bool} (h:fa δ=rt x) (ht:(nz x).bind GR=some t) (hb:HS T t=b):Gk T fa δ=rt (.d (.bool b)):=by
 unfold Gk;rw [h,ay,ht,aP,ay,hb]
section
variable {F G:DS->M Out} {f fa fb fc fd fe:DS->M DV} {fr:DS->M (List DV)} {fi:DS->M (List D)} {gc:DS->M Bool} {δ:DS} {Q:DS->Prop} {r:M Out} {i:Nat} {x y z u:DV} {b:Bool}
theorem Kl (h1:fa δ=rt x) (h2:fb δ=rt y) (h3:fc δ=rt z) (h4:fd δ=rt u):aa fa (aa fb (aa fc (aa fd ai))) δ=rt [x,y,z,u]:=by
 have:=gw h2 h3 h4;unfold aa at this ⊢;rw [h1,ay,this]; rfl
theorem K2 {v:DV} (h1:fa δ=rt x) (h2:fb δ=rt y) (h3:fc δ=rt z) (h4:fd δ=rt u) (h5:fe δ=rt v):aa fa (aa fb (aa fc (aa fd (aa fe ai)))) δ=rt [x,y,z,u,v]:=by
 have:=Kl h2 h3 h4 h5;unfold aa at this ⊢;rw [h1,ay,this]; rfl
theorem HY {a:D} (h1:fa δ=rt (.d a)):cw (aa fa ai) δ=rt (.new [a]):=by
 unfold cw;rw [bp h1];rfl
theorem F5 (a b:Int):PyData.eqv (.int a) (.int b)=decide (a=b):=by
 unfold PyData.eqv;by_cases h:a=b
 ·subst h; simp
 ·simp [h]
end
inductive Ml where
 |r (c f n:Int)
 |g (n:Int) (k:List Int)
noncomputable def md:Ml->D
 |.r c f n=>rn c f n
 |.g n k=>gp n k
noncomputable def tl:Ml->List Tl
 |.r c f n=>(List.range n.toNat).map fun (k:Nat)=>(f+(k:Int),c)
 |.g n k=>k.map fun x=>(n,x)
noncomputable def Ax (m c:Nat):Ml->Bool
 |.r col f n=>lD m c col f n
 |.g n k=>lz m c n k
theorem vG:∀y:Ml,uB (md y)
 |.r c f n=>.inl ⟨c,f,n,rfl⟩
 |.g n k=>.inr ⟨n,k,rfl⟩
structure n8 (m c:Nat) (y:Ml):Prop where
 known:((cW m c).any fun z=>PyData.eqv z (md y))=Ax m c y
 tiles:∀C E:Addr,cF C E [hs C m c,.d (md y)]=if Ax m c y=true then rt (.new ((tl y).map pr)) else some (.error (.ref E))
 law:a8 [.d (md y)]=rt (.new ((tl y).map pr))
 len:(tl y).length<=13
 box:∀p∈tl y,0<=p.1/\p.1<=13/\0<=p.2/\p.2<=3
theorem HZ {col f n:Int} (h0:0<=n) (h1:n<=13) (h2:0<=f) (h3:f+n-1<=13) (h4:0<=col) (h5:col<=3):n8 m c (.r col f n):=by
 have ht:jF col f n=(tl (.r col f n)).map pr:=by unfold jF tl; rw [List.map_map]; rfl
 refine ⟨t5 m c col f n,fun C E=>?_,?_,by unfold tl; simp; lia,fun p hp=>?_⟩
 ·show cF C E [hs C m c,.d (rn col f n)]=_;rw [ua C E m c col f n 0x1 0x1,ht];rfl
 ·show a8 [.d (rn col f n)]=_;rw [nV col f n 0x1 0x1,ht]
 ·obtain ⟨k,hk,rfl⟩:=Ll.mp hp;have hk:=Ln.mp hk;exact ⟨by show 0<=f+(k:Int); lia,by show f+(k:Int)<=13; lia,h4,h5⟩
theorem IG {n:Int} (h0:0<=n) (h1:n<=13) (hl:k.length<=4) (hk:∀x∈k,0<=x/\x<=3) (hc:xY c k=decide (k∈j5 c)):n8 m c (.g n k):=by
 have ht:jM n k=(tl (.g n k)).map pr:=by unfold jM tl; rw [List.map_map]; rfl
 refine ⟨(tY m c n k).trans (Dr m c n k hc).symm,fun C E=>?_,?_,by unfold tl; simp; lia,fun p hp=>?_⟩
 ·show cF C E [hs C m c,.d (gp n k)]=_;rw [uM C E m c n k 0x1,ht];rfl
 ·show a8 [.d (gp n k)]=_;rw [nK n k 0x1,ht]
 ·obtain ⟨x,hx,rfl⟩:=Ll.mp hp;exact ⟨h0,h1,(hk x hx).1,(hk x hx).2⟩
theorem Gx:∀c∈[1,2,3,4],∀k∈j5 c,k.length<=4/\(∀x∈k,0<=x/\x<=3)/\xY c k=decide (k∈j5 c):=by decide +kernel
theorem Kb (h1:1<=c) (h4:c<=4):c∈[1,2,3,4]:=by simp; lia
theorem zR (hm:m<=13) (h1:1<=c) (h4:c<=4) (h:x∈cW m c):∃y,md y=x/\n8 m c y:=by
 unfold cW at h;rcases Lk.mp h with q|q
 ·obtain ⟨n0,k,hk,hn,rfl⟩:=gD q;obtain ⟨a1,a2,a3⟩:=Gx c (Kb h1 h4) k hk;exact ⟨.g _ k,rfl,IG 0x1 0x1 a1 a2 a3⟩
 ·obtain ⟨col,f0,s,hc,_,hs,rfl⟩:=jm q;exact ⟨.r _ _ _,rfl,HZ 0x1 0x1 0x1 0x1 0x1 0x1⟩
theorem GF (h:uB x):x.depth<=50:=by
 rcases h with ⟨c,f,n,rfl⟩|⟨n,k,rfl⟩
 ·exact FO ..
 ·exact Fh ..
noncomputable def GP (xs:List D):Bool:=(List.range (xs.length-1)).all fun k=>!ll (lp (xs.getD (k+1) .none)) (lp (xs.getD k .none))
theorem Ie (hx:uB x) (hy:uB y):PyData.eqv x y=true↔x=y:=by
 rcases hx with ⟨c,f,n,rfl⟩|⟨n,k,rfl⟩ <;> rcases hy with ⟨c',f',n',rfl⟩|⟨n',k',rfl⟩
 ·rw [wC];constructor
  ·intro h; simp at h; obtain ⟨rfl,rfl,rfl⟩:=h; rfl
  ·intro h; unfold rn at h; simp at h; simp [h]
 ·rw [qU];exact ⟨fun h=>(Bool.false_ne_true h).elim,fun h=>by unfold rn gp at h; simp at h⟩
 ·rw [qY];exact ⟨fun h=>(Bool.false_ne_true h).elim,fun h=>by unfold rn gp at h; simp at h⟩
 ·rw [vO];constructor
  ·intro h; simp at h; obtain ⟨rfl,rfl⟩:=h; rfl
  ·intro h;unfold gp at h;simp at h;simp [h.1,Bv h.2]
theorem yv:∀{xs ys:List D},(∀x∈xs,uB x)->(∀y∈ys,uB y)->(PyData.eqvAll xs ys=true↔xs=ys)
 |[],[],_,_=>⟨fun _=>rfl,fun _=>rfl⟩
 |[],_::_,_,_=>⟨fun h=>(nomatch h),fun h=>(nomatch h)⟩
 |_::_,[],_,_=>⟨fun h=>(nomatch h),fun h=>(nomatch h)⟩
 |x::xs,y::ys,h1,h2=>by
  rw [PyData.eqvAll,Bool.and_eq_true,Ie (h1 x K5) (h2 y K5),yv (fun z hz=>h1 z (K3 _ hz)) fun z hz=>h2 z (K3 _ hz)];simp
theorem IA (h:∀x∈xs,uB x):PyData.depthAll xs<=50:=by
 induction xs with
 |nil=>unfold PyData.depthAll; lia
 |cons x r ih=>
  have h1:=GF (h x K5);have h2:=ih fun z hz=>h z (K3 _ hz);rw [PyData.depthAll];lia
theorem B8 (l:By) (t' t:Tl) (w:List Tl):c0 (fj l t' w) t=if t'=t then c0 l t++[w] else c0 l t:=by
 unfold fj;by_cases hb:i9 l t'=true
 ·rw [if_pos hb];unfold c0;rw [List.find?_map];have e:((fun x=>decide (x.1=t))∘fun x:d3×List (List d3)=>if x.1=t' then (x.1,x.2++[w]) else x)=fun x=>decide (x.1=t):=by
   funext x;show decide ((if x.1=t' then (x.1,x.2++[w]) else x).1=t)=_;split <;> rfl
  rw [e];cases hf:l.find? fun x=>decide (x.1=t) with
  |none=>
   by_cases ht:t'=t
   ·subst ht;obtain ⟨x,hx,h2⟩:=List.any_eq_true.mp hb;have:=List.find?_eq_none.mp hf x hx;exact absurd h2 this
   ·rw [if_neg ht]; rfl
  |some x=>
   have hx:x.1=t:=by simpa using List.find?_some hf
   by_cases ht:t'=t
   ·rw [if_pos ht];show ((some (if x.1=t' then (x.1,x.2++[w]) else x)).map (·.2)).getD []=x.2++[w];rw [if_pos (hx.trans ht.symm)]; rfl
   ·rw [if_neg ht];show ((some (if x.1=t' then (x.1,x.2++[w]) else x)).map (·.2)).getD []=x.2;rw [if_neg (fun z=>ht (z.symm.trans hx))]; rfl
 ·rw [if_neg hb];unfold c0;rw [List.find?_append];cases hf:l.find? fun x=>decide (x.1=t) with
  |none=>
   by_cases ht:t'=t
   ·rw [if_pos ht]; simp [ht]
   ·rw [if_neg ht]; simp [ht]
  |some x=>
   have hx:x.1=t:=by simpa using List.find?_some hf
   have ht:t'≠t:=fun z=>hb (List.any_eq_true.mpr ⟨x,List.mem_of_find?_eq_some hf,by simp [hx,z]⟩);rw [if_neg ht]; rfl
theorem uY (w x:List Tl) (t:Tl):∀(ts:List Tl) (l:By),x∈c0 (ts.foldl (fun l t=>fj l t w) l) t↔x∈c0 l t\/(x=w/\t∈ts)
 |[],l=>by simp
 |s::ts,l=>by
  rw [List.foldl_cons,uY w x t ts,B8];by_cases hs:s=t
  ·rw [if_pos hs];subst hs;rw [List.mem_append,List.mem_singleton];constructor
   ·rintro ((h|h)|h)
    ·exact .inl h
    ·exact .inr ⟨h,K5⟩
    ·exact .inr ⟨h.1,K3 _ h.2⟩
   ·rintro (h|h)
    ·exact .inl (.inl h)
    ·exact .inl (.inr h.1)
  ·have NT:¬t=s:=fun e=>hs e.symm;rw [if_neg hs]; simp [NT]
theorem xB (x:List Tl) (t:Tl):∀(LN:List (List Tl)) (l:By),x∈c0 (LN.foldl il l) t↔x∈c0 l t\/(x∈LN/\t∈x.take 3)
 |[],l=>by simp
 |w::LN,l=>by
  rw [List.foldl_cons,xB x t LN];unfold il;rw [uY];constructor
  ·rintro ((h|⟨h,h2⟩)|⟨h,h2⟩)
   ·exact .inl h
   ·subst h; exact .inr ⟨K5,h2⟩
   ·exact .inr ⟨K3 _ h,h2⟩
  ·rintro (h|⟨h,h2⟩)
   ·exact .inl (.inl h)
   ·rcases Lj.mp h with e|h
    ·subst e; exact .inl (.inr ⟨rfl,h2⟩)
    ·exact .inr ⟨h,h2⟩
theorem jo (x:List Tl) (t:Tl) (LN:List (List Tl)):x∈c0 (kL LN) t↔x∈LN/\t∈x.take 3:=by
 unfold kL;rw [xB];have:c0 ([]:By) t=[]:=rfl;rw [this]; simp
noncomputable def t9 (m c:Nat):List Ml:=((List.range m).flatMap fun (n0:Nat)=>(j5 c).map fun k=>Ml.g (1+(n0:Int)) k)++(List.range c).flatMap fun (col:Nat)=>(List.range m).flatMap fun (f0:Nat)=>(List.range (m-2-f0)).map fun (s:Nat)=>Ml.r (col:Int) (1+(f0:Int)) (3+(s:Int))
theorem tj (m c:Nat):(t9 m c).map md=cW m c:=by
 unfold t9 cW cA bq c7 fg dm;simp only [List.map_append,List.map_flatMap,List.map_map];rfl
theorem zT:∀{x y:Ml},md x=md y->x=y
 |.r _ _ _,.r _ _ _,h=>by
  have h':rn _ _ _=rn _ _ _:=h;unfold rn at h';simp at h';obtain ⟨rfl,rfl,rfl⟩:=h';rfl
 |.g _ _,.g _ _,h=>by
  have h':gp _ _=gp _ _:=h;unfold gp at h';simp at h';obtain ⟨rfl,h2⟩:=h';rw [Bv h2]
 |.r _ _ _,.g _ _,h=>by
  have h':rn _ _ _=gp _ _:=h;unfold rn gp at h';simp at h'
 |.g _ _,.r _ _ _,h=>by
  have h':gp _ _=rn _ _ _:=h;unfold rn gp at h';simp at h'
theorem Bb (hm:m<=13) (h1:1<=c) (h4:c<=4) {y:Ml} (h:y∈t9 m c):n8 m c y/\Ax m c y=true:=by
 have hk:md y∈cW m c:=by rw [<-tj]; exact Ll.mpr ⟨y,h,rfl⟩
 obtain ⟨z,e,hz⟩:=zR hm h1 h4 hk;have:=zT e;subst this;refine ⟨hz,?_⟩;rw [<-hz.known];exact List.any_eq_true.mpr ⟨md z,hk,(Ie (vG z) (vG z)).mpr rfl⟩
noncomputable def HW (m c:Nat):List (List Tl):=(t9 m c).map tl
variable {w:List Tl}
theorem zZ:w∈HW m c↔(∃n0:Nat,n0<m/\∃k∈j5 c,w=k.map fun x=>(1+(n0:Int),x))\/∃col f0 s:Nat,col<c/\f0<m/\s<m-2-f0/\w=(List.range (3+s)).map fun (k:Nat)=>(1+(f0:Int)+(k:Int),(col:Int)):=by
 unfold HW t9;simp only [List.map_append,List.map_flatMap,List.map_map,List.mem_append,List.mem_flatMap,List.mem_range,List.mem_map,Function.comp];constructor
 ·rintro (⟨n0,h,k,hk,rfl⟩|⟨col,h1,f0,h2,s,h3,rfl⟩)
  ·exact .inl ⟨n0,h,k,hk,rfl⟩
  ·refine .inr ⟨col,f0,s,h1,h2,h3,?_⟩;show (List.range (3+(s:Int)).toNat).map _=_;rw [show (3+(s:Int)).toNat=3+s by lia]
 ·rintro (⟨n0,h,k,hk,rfl⟩|⟨col,f0,s,h1,h2,h3,rfl⟩)
  ·exact .inl ⟨n0,h,k,hk,rfl⟩
  ·refine .inr ⟨col,h1,f0,h2,s,h3,?_⟩;show (List.range (3+(s:Int)).toNat).map _=_;rw [show (3+(s:Int)).toNat=3+s by lia]
theorem xS:∀c∈[1,2,3,4],∀k∈j5 c,k.Pairwise (·<·)/\3<=k.length/\k.length<=4/\∀x∈k,0<=x/\x<(c:Int):=by decide +kernel
theorem Cg (h1:1<=c) (h4:c<=4) (h:w∈HW m c):w.Pairwise GH:=by
 rcases zZ.mp h with ⟨n0,_,k,hk,rfl⟩|⟨col,f0,s,_,_,_,rfl⟩
 ·have:=(xS c (Kb h1 h4) k hk).1;rw [List.pairwise_map];exact this.imp fun h=>.inr ⟨rfl,h⟩
 ·rw [List.pairwise_map];exact (List.pairwise_lt_range).imp fun h=>.inl (by show 1+(f0:Int)+_<1+(f0:Int)+_; lia)
theorem nh (hm:m<=13) (h1:1<=c) (h4:c<=4) (h:w∈HW m c):3<=w.length/\w.length<=13:=by
 rcases zZ.mp h with ⟨n0,_,k,hk,rfl⟩|⟨col,f0,s,_,_,_,rfl⟩
 ·have:=xS c (Kb h1 h4) k hk;rw [List.length_map]; lia
 ·rw [List.length_map,List.length_range]; lia
end LW
namespace L3
open PySem PySem.Spec L2
open PyProof.Rows hiding St
noncomputable def JU (xs:List DV):M DV:=match xs with
 |[.d (.int i),.new ys]=>rt (.nwt [.int i] ys [])
 |_=>none
noncomputable def BO (fr:DS->M (List DV)) (δ:DS):M DV:=bd (fr δ) JU
theorem Fb {X:Cx} {E:XK} {es:List Expr} {pos:Pos} {k:Nat} {fr:DS->M (List DV)} (h:t6 X E es fr):PX X E (.Tuple es k pos) (BO fr):=PE.mono (v9 h) fun σ H Q q=>lN (g:=fun _=>JU) q fun O P δ xs r vs H1 rs LK s1 rx e q=>by
 unfold JU at e;split at e
 ·rename_i i ys;cases e;cases rx with
  |@cons _ v1 _ _ r1 rr=>
   cases rr with
   |@cons _ v2 _ _ r2 rr=>
    cases rr;have r1':Rp (P++O) H1 (.int i) v1:=r1;cases r1';obtain ⟨a,us,rfl,hn,ha,l⟩:=r2;refine ⟨line_big (by show 2<=1000000; decide),fun t ht=>q _ _ (bb ht) ⟨t,a,[.int i],us,[],rfl,fun hm=>?_,aM,hn,bb ht _ _ ha,.cons (.int i) .nil,l.kp (.same (bb ht)),.nil⟩⟩;rcases Lj.mp hm with z|z
    ·rw [z,ha] at ht; cases ht
    ·obtain ⟨o,e⟩:=LK.dom t z;rw [ht] at e; cases e
 ·cases e
def JM (Pr:Program) (w:World) (C:Addr) (f:PyData->Option Int) (U:List PyData):Sp:=fun vs H Q _=>∃p dx v O xs LN,vs=[.ref p,v]/\H p=some (.ins C dx [])/\p∈O/\(∀a,a∈O->∃o,H a=some o)/\Rp O H (.list xs) v/\fX xs=some LN/\LN.length<=1000 /\
 ∀H' b k kvs,(∀a o,a≠p->H a=some o->H' a=some o)->H' p=some (.ins C dx [("by_least",.ref b),("known",.ref k)])->b∉O->H' b=some (dO Pr w b kvs)->BW O H' (kL LN) kvs->k∉O->H' k=some (mO Pr w k f U)->Q .non H'
noncomputable def AD (Pr:Program) (w:World) (xs:List DV):M DV:=match xs with
 |[.d (.list ps)]=>bd (op (fX ps)) fun LN=>if LN.length<=1000 then rt (.fz (.dl Pr w (kL LN))) else none
 |_=>none
noncomputable def JB (Pr:Program) (w:World) (C:Addr) (f:PyData->Option Int) (U:List PyData) (xs:List DV):M DV:=match xs with
 |[x]=>match uh x with
  |some (.list ps)=>bd (op (fX ps)) fun LN=>if LN.length<=1000 then rt (.fz (.tb Pr w C (kL LN) f U)) else none
  |_=>none
 |_=>none
structure HsT (P:Program) (w:World) (K:Li) (mg:Str->Option Value) (base:Heap) (x:Str) (C:Addr) (k:Nat) (f:PyData->Option Int) (U:List PyData):Prop where
 ex:∃g fd ps,Mk K C g/\FnOk P w K mg base tK k g fd ps (JM P w C f U)/\f6 K fd ps []/\mg x=some (.ref C)
section
variable {X:Cx} {E:XK} {e:Expr} {es:List Expr} {pos p:Pos} {fr:DS->M (List DV)}
theorem Gc {x:Str} {C:Addr} {k:Nat} {f:PyData->Option Int} {U:List PyData} (h:HsT X.prog X.w X.K X.mg X.base x C k f U) (hr:Room (k+1) X.A) (ha:t6 X E (e::es) fr) (hg:Gl X x:=by rfl) (Mv:(x==("__debug__" : Str))=false:=by decide)
  (he:starEach (e::es) X.env=(false,eval e X.env)::starEach es X.env:=by rfl) (Me:(backTo pos (starEach es X.env)).any (·.1)=false:=by rfl):PX X E (.Call (.Name x p) (e::es) [] pos) (aR (JB X.prog X.w C f U) fr):=by
 obtain ⟨g,fd,ps,hM,hF,hb,hm⟩:=h.ex;refine PE.mono (yu (E:=E0) hM hF hr hg hm hb .nil (fun _ _ _ _ _ _ _ h=>h.elim) ha Mv he Me) fun σ H Q q=>lN (g:=fun _=>JB X.prog X.w C f U) q fun O P δ xs r vs H1 rs LK s1 rx e q=>?_;unfold JB at e;split at e
 ·rename_i y;split at e
  ·rename_i ps hy;obtain ⟨LN,e1,e2⟩:=bu e;split at e2
   ·rename_i hl;cases e2;cases rx with
    |@cons _ v _ _ r1 rr=>
     cases rr;have rd:=r1.data rs.dom hy;intro x dx nx ndx ne;have s2:aE H1 (upd (upd H1 dx (.own x)) x (.ins C dx [])):=fun b o q=>by rw [aD (bK q nx),aD (bK q ndx)]; exact q
     have k2:Kp (P++O) H1 (x::dx::(P++O)) (upd (upd H1 dx (.own x)) x (.ins C dx [])):=⟨fun a o _ e=>s2 a o e,fun a ha=>by
      rcases Lj.mp ha with z|ha
      ·exact .inr (z▸nx)
      ·rcases Lj.mp ha with z|z
       ·exact .inr (z▸ndx)
       ·exact .inl z⟩
     refine ⟨x,dx,v,x::dx::(P++O),ps,LN,rfl,aM,K5,fun a ha=>?_,rd.kp k2,e1,hl,fun H' b k kvs hk hp hb eb hby hkO ek=>⟨rfl,q _ H' (fun a o e=>?_) ?_⟩⟩
     ·rcases Lj.mp ha with z|ha
      ·exact ⟨_,by rw [z]; exact aM⟩
      ·rcases Lj.mp ha with z|z
       ·exact ⟨_,by rw [z,aD ne,aM]⟩
       ·obtain ⟨o,e⟩:=LK.dom a z;exact ⟨o,s2 a o e⟩
     ·exact hk a o (bK e nx) (s2 a o e)
     ·have sub:∀a,a∈P++O->a∈x::dx::(P++O):=fun a ha=>K3 _ (K3 _ ha);refine ⟨x,dx,rfl,fun z=>?_,b,k,kvs,hp,fun z=>hb (sub _ z),eb,hby.kp (.sub sub),fun z=>hkO (sub _ z),ek⟩;obtain ⟨o,e⟩:=LK.dom x z;rw [nx] at e; cases e
   ·cases e2
  ·cases e
 ·cases e
end
theorem zm {X:Cx} {C:Addr} {f:PyData->Option Int} {U:List PyData} {fv:DS->M DV} {vs:List V} {H:Hp} {Q:VK} (c:Cls X.K C) (n1:d0 X.K C "by_least") (n2:d0 X.K C "known") (MW:JM X.prog X.w C f U vs H Q E0)
  (ev:∀xs LN,fX xs=some LN->LN.length<=1000->fv [none,some (.d (.list xs))]=rt (.fz (.dl X.prog X.w (kL LN)))) :
  Ig (Hz X.K (gy 0) (tE E0 fv) "by_least") (Hz X.K (gy 0) (fun σ H Q=>∀p,H p=none->Q (.ref p) (upd H p (mO X.prog X.w p f U))) "known") { nx:=fun _ H'=>Q .non H',rt:=Q } (vs.map some) H:=by
 obtain ⟨p,dx,v,O,xs,LN,rfl,hp,hpO,dom,rd,ep,hl,q⟩:=MW;have rs:RS O [] H [some (.ref p),some v] [none,some (.d (.list xs))]:=by
  refine ⟨rfl,dom,fun a ha=>(nomatch ha),fun i x h=>?_,fun i j x y v w a h1 h2 h3 h4 o1 o2=>?_⟩
  ·match i with
   |0=>cases h
   |1=>cases h; exact ⟨_,rfl,fun _=>nofun,rd⟩
   |i+2=>simp at h
  ·match i with
   |0=>cases h1
   |1=>cases h1; exact o1.elim
   |i+2=>simp at h1
 refine ⟨O,[],_,_,rs,ev xs LN ep hl,fun u H1 s1 ru=>?_⟩;obtain ⟨b,_,rfl,hb,kvs,eb,hby⟩:=ru;have My:b∉O:=hb;have hby':BW O H1 (kL LN) kvs:=hby;refine ⟨.ref p,rfl,p,C,dx,[],rfl,s1 _ _ hp,c,n1,0x3,fun k hk=>?_⟩;have hkp:k≠p:=fun z=>by rw [z,aM] at hk; cases hk
 have Ow:H1 k=none:=by rw [aD hkp] at hk; exact hk
 refine ⟨.ref p,rfl,p,C,dx,_,rfl,by rw [aD (Ne.symm hkp),aM],c,n2,by show 1<1000; decide,?_⟩;have hkb:b≠k:=fun z=>by rw [z,Ow] at eb; cases eb
 have hpb:b≠p:=fun z=>by have:=s1 _ _ hp; rw [z,this] at eb; cases eb
 have kk:∀a o,a≠p->H1 a=some o->upd (upd (upd H1 p (.ins C dx (f9 "by_least" (.ref b) []))) k (mO X.prog X.w k f U)) p (.ins C dx (f9 "known" (.ref k) (f9 "by_least" (.ref b) []))) a=some o:=fun a o ha e=>by
  rw [aD ha,aD (bK e Ow),aD ha]; exact e
 refine q _ b k kvs (fun a o ha e=>kk a o ha (s1 _ _ e)) (by rw [aM,FL 0x3]) My (kk b _ hpb eb) (hby'.kp ⟨fun a o ha e=>kk a o (fun z=>ha (by rw [z]; exact hpO)) e,fun a ha=>.inl ha⟩) (fun z=>?_) (by rw [aD hkp,aM]);obtain ⟨o,e⟩:=dom k z;rw [s1 _ _ e] at Ow; cases Ow
end L3
namespace LW
open PySem PySem.Spec L2 L3
noncomputable def lW (C:Addr) (Ld:Addr):DS->M Out:=(gk (gm (fun δ=>bd ((aR (aw 3 (gZ C)) (aa (af 0) (aa (af 1) (aa (af 2) ai)))) δ) bR)) (fun _=>some (.error (.ref Ld))) b9)
noncomputable def eS (C:Addr) (Ld:Addr):List DV->M DV:=eT ["house", "hand", "jokers"] (lW C Ld)
noncomputable def xw:DS->M Out:=(bx (aR qI (aa (aU 1 [] (hX (af 0)) (ar 0) bN (e2 bz (af 0) (eC (.int 0)))) ai)))
noncomputable def l9:List DV->M DV:=eT ["tiles"] (xw)
noncomputable def qL:DS->M Out:=(bE (aK 3 (aR uy (aa (af 0) ai))) (bE (cG (hX (af 2)) (ar 4) (gk (fun δ=>bd (e2 (vZ false) (af 4) (af 3) δ) bR) (qv 3 (af 4)) b9)) (bE (aK 5 (e2 gSub (aR c6 (aa (af 0) ai)) (aR c6 (aa (af 3) ai)))) (bx (AN (aa (af 3) (aa (e2 gSub (af 1) (e2 gSub (aR c6 (aa (af 2) ai)) (af 5))) ai)))))))
noncomputable def bT:List DV->M DV:=eT ["tiles", "jokers", "wanted", "rest", "tile", "from_hand"] (qL)
noncomputable def ig (C:Addr) (Lg:Addr):DS->M Out:=(bE (aK 3 (aU 1 [0] (hX (aR (aw 1 (lO C)) (aa (af 0) ai))) (ar 0) bN (bj (aa (af 0) (aa (aR (jH 2 (cF C Lg)) (aa (af 1) (aa (af 0) ai))) ai))))) (fun δ=>(bx (aU 1 [1,2] (hX (af 3)) (ar 0) (fun δ=>bd (e2 CF (e2 bz (t4 (aR (aw 3 (bT)) (aa (af 1) (aa (af 2) (aa (e2 bz (af 0) (eC (.int 1))) ai))))) (eC (.int 1))) (eC (.int 0)) δ) bR) (af 0))) (frz 3 δ)))
noncomputable def cR (C:Addr) (Lg:Addr):List DV->M DV:=eT ["house", "hand", "jokers", "pairs"] (ig C Lg)
noncomputable def BZ (P:Program) (w:World) (CT:Addr):DS->M Out:=(bE (aK 3 (aU 1 [1,2] (hX (E9 P w CT (af 0) (e2 bz (af 1) (eC (.int 0))) (cw ai))) (ar 0) bN (aR (aw 3 (bT)) (aa (af 1) (aa (af 2) (aa (af 0) ai)))))) (fun δ=>(bx (aU 1 [] (hX (af 3)) (ar 0) (fun δ=>bd (e2 CF (e2 bz (af 0) (eC (.int 1))) (eC (.int 0)) δ) bR) (af 0))) (frz 3 δ)))
noncomputable def pz (P:Program) (w:World) (CT:Addr):List DV->M DV:=eT ["self", "tiles", "jokers", "after"] (BZ P w CT)
noncomputable def iS (P:Program) (w:World) (CT:Addr) (m_search_least:List DV->M DV):DS->M Out:=(bE (gk (gm (fun δ=>bd ((af 1) δ) Hn)) (bx (eC (.int 0))) b9) (bE (aK 3 (bj (aa (aR lV (aa (af 1) ai)) (aa (af 2) ai)))) (yb P w CT 0 3 (fZ P w CT 3 m_search_least (af 0) (aa (af 1) (aa (af 2) ai))))))
noncomputable def dg (P:Program) (w:World) (CT:Addr) (m_search_least:List DV->M DV):List DV->M DV:=eT ["self", "tiles", "jokers", "key"] (iS P w CT m_search_least)
noncomputable def jn (P:Program) (w:World) (CT:Addr) (ju:List DV->M DV) (B':List DV->M DV):DS->M Out:=(bE (aK 3 (cw (aa (e2 aB (e2 bz (e2 bz (af 1) (eC (.int 0))) (eC (.int 0))) (fZ P w CT 3 B' (af 0) (aa (ur (af 1) (eC (.int 1))) (aa (af 2) ai)))) ai))) (bE (cG (hX (fZ P w CT 3 ju (af 0) (aa (af 1) (aa (af 2) ai)))) (kP 2 (cJ (ar 4) (cJ (ar 5) lS))) (kj 3 (fZ P w CT 3 B' (af 0) (aa (af 4) (aa (af 5) ai))))) (bx (aR ym (aa (af 3) ai)))))
noncomputable def eW (P:Program) (w:World) (CT:Addr) (ju:List DV->M DV) (B':List DV->M DV):List DV->M DV:=eT ["self", "tiles", "jokers", "sums", "rest", "unused"] (jn P w CT ju B')
noncomputable def jr (P:Program) (w:World) (CT:Addr) (B':List DV->M DV):DS->M Out:=(bE (aK 4 (fZ P w CT 3 B' (af 0) (aa (af 2) (aa (af 3) ai)))) (bE (aK 5 (cw ai)) (bE (aK 6 (af 2)) (bE (aK 7 (af 3)) (bE (cG (hX (af 1)) (kP 2 (cJ (ar 8) (cJ (ar 9) lS))) (bE (aK 10 (t4 (aR (aw 3 (bT)) (aa (af 6) (aa (af 7) (aa (af 9) ai)))))) (zN (kh (fun δ=>bd (e2 CF (e2 bz (af 10) (eC (.int 1))) (eC (.int 0)) δ) bR) (fun δ=>bd (e2 (iG false) (fZ P w CT 3 B' (af 0) (aa (e2 bz (af 10) (eC (.int 0))) (aa (e2 bz (af 10) (eC (.int 1))) ai))) (af 4) δ) bR)) (bE (kj 5 (af 8)) (bE (aK 6 (e2 bz (af 10) (eC (.int 0)))) (bE (aK 7 (e2 bz (af 10) (eC (.int 1)))) (aK 10 (t4 (aR (aw 3 (bT)) (aa (af 6) (aa (af 7) (aa (af 9) ai))))))))) 100))) (bx (af 5)))))))
noncomputable def dM (P:Program) (w:World) (CT:Addr) (B':List DV->M DV):List DV->M DV:=eT ["table", "playable", "hand", "jokers", "goal", "laying", "rest", "unused", "meld", "wanted", "after"] (jr P w CT B')
noncomputable def sP (P:Program) (w:World) (C:Addr) (CT:Addr) (Ld:Addr) (Lg:Addr) (fM:PyData->Option Int) (UM:List PyData) (B':List DV->M DV):DS->M Out:=(bE (o5 (aR (jH 3 (eS C Ld)) (aa (af 0) (aa (af 1) (aa (af 2) ai))))) (bE (aK 3 (aR (jH 3 (cR C Lg)) (aa (af 0) (aa (af 1) (aa (af 2) ai))))) (fun δ=>(bE (aK 4 (aR (JB P w CT fM UM) (aa (af 3) ai))) (bE (aK 5 (e2 gSub (aR (aw 1 (l9)) (aa (af 1) ai)) (fZ P w CT 3 B' (af 4) (aa (af 1) (aa (af 2) ai))))) (fun δ=>(bx (BO (aa (af 5) (aa (aR (aw 4 (dM P w CT B')) (aa (af 4) (aa (af 3) (aa (af 1) (aa (af 2) ai))))) ai)))) (frz 3 δ)))) (frz 3 δ))))
noncomputable def tR (P:Program) (w:World) (C:Addr) (CT:Addr) (Ld:Addr) (Lg:Addr) (fM:PyData->Option Int) (UM:List PyData) (B':List DV->M DV):List DV->M DV:=eT ["house", "hand", "jokers", "playable", "table", "greatest"] (sP P w C CT Ld Lg fM UM B')
theorem C7 (ps:List Tl) (hl:ps.length<=1000):l9 [.d (.list (ps.map pr))]=rt (.d (.int ((ps.map (·.1)).sum))):=by
 unfold l9 xw;refine d9 (x:=.d (.int ((ps.map (·.1)).sum))) (bD ?_);refine (cC (bp (br (xs:=ps.map pr) (fC rfl) (by rw [List.length_map]; lia) (du (g:=fun p=>PyData.int p.1) fun p _=>?_)))).trans ?_
 ·exact (av (x:=.d (pr p)) (y:=.d (.int 0)) rfl rfl).trans (aH rfl)
 ·unfold qI;simp only [ma,aP,ay];rw [show (ps.map fun p=>PyData.int p.1)=(ps.map (·.1)).map PyData.int by rw [List.map_map]; rfl,mw];rfl
theorem BB (r:List Tl) (p:Tl):((r.map pr).any fun z=>PyData.eqv z (pr p))=decide (p∈r):=by
 induction r with
 |nil=>rfl
 |cons q r ih=>
  rw [List.map_cons,List.any_cons,ih,mZ];by_cases h:q=p
  ·subst h; simp
  ·have:p≠q:=fun e=>h e.symm;simp [h,this]
theorem xV (r:List Tl) (p:Tl):vZ false (.d (pr p)) (.own (r.map pr))=rt (.d (.bool (decide (p∈r)))):=by
 unfold vZ;show (if (pr p).depth<=60 then _ else none)=_;rw [if_pos (show (pr p).depth<=60 from (by decide:1<=60))];show rt (DV.d (.bool ((r.map pr).any fun z=>PyData.eqv z (pr p))))=_;rw [BB]
theorem sW (p:Tl):∀r:List Tl,(r.map pr).findIdx? (fun z=>PyData.eqv z (pr p))=r.findIdx? (·==p)
 |[]=>rfl
 |q::r=>by
  rw [List.map_cons,List.findIdx?_cons,List.findIdx?_cons,sW p r,mZ];by_cases h:q=p
  ·subst h; simp
  ·have:(q==p)=false:=by simpa using h
   rw [this,Ly h]
theorem iU {α β:Type} (f:α->β):∀(l:List α) (b:Nat),(l.map f).eraseIdx b=(l.eraseIdx b).map f
 |[],_=>rfl
 |_::_,0=>rfl
 |x::l,b+1=>by
  show f x::(l.map f).eraseIdx b=f x::(l.eraseIdx b).map f;rw [iU f l b]
theorem oR {p:Tl}:∀{r:List Tl},p∈r->∃j,r.findIdx? (·==p)=some j/\r.eraseIdx j=r.erase p
 |q::r,h=>by
  rw [List.findIdx?_cons,List.erase_cons];by_cases hq:q=p
  ·subst hq;exact ⟨0,0x4,0x4⟩
  ·have hb:(q==p)=false:=by simpa using hq
   obtain ⟨j,e1,e2⟩:=oR ((Lj.mp h).resolve_left fun e=>hq e.symm);refine ⟨j+1,by rw [hb,e1]; rfl,?_⟩;rw [hb];show q::r.eraseIdx j=_;rw [e2];rfl
noncomputable def oδ (hand:List Tl) (j:Int) (need r:List Tl) (x4 x5:Option DV):DS:=[some (.d (.list (hand.map pr))),some (.d (.int j)),some (.d (.list (need.map pr))),some (.own (r.map pr)),x4,x5]
noncomputable def oB:DS->M Out:=(gk (fun δ=>bd (e2 (vZ false) (af 4) (af 3) δ) bR) (qv 3 (af 4)) b9)
theorem Bw (hand:List Tl) (j:Int) (need:List Tl) (hl:need.length<=1000):∃x4,dw (ar 4) oB (need.map pr) (oδ hand j need hand none none)=rt (.nx (oδ hand j need (aq hand need) x4 none)):=by
 obtain ⟨δ',e,x4,h⟩:=iR (f:=pr) (i:=4) (N:=1000) (B:=oB) (all:=need) (fun pre δ=>∃x4,δ=oδ hand j need (aq hand pre) x4 none) (fun pre p δ hp MZ hI=>by
  obtain ⟨x4,rfl⟩:=hI;have hla:aq hand (pre++[p])=(aq hand pre).erase p:=by unfold aq; rw [List.foldl_append]; rfl
  refine ⟨oδ hand j need (aq hand (pre++[p])) (some (.d (pr p))) none,?_,_,rfl⟩;have ht:(fun δ=>bd (e2 (vZ false) (af 4) (af 3) δ) bR) (oδ hand j need (aq hand pre) (some (.d (pr p))) none)=rt (decide (p∈aq hand pre)):=bf ((av (x:=.d (pr p)) (y:=.own ((aq hand pre).map pr)) rfl rfl).trans (xV _ _));unfold oB;by_cases MK:p∈aq hand pre
  ·rw [Lz MK] at ht;refine JD ht ?_;obtain ⟨i,e1,e2⟩:=oR MK;show qv 3 (af 4) (oδ hand j need (aq hand pre) (some (.d (pr p))) none)=_;unfold qv;show bd (rt (DV.d (pr p))) _=_;rw [ay];show bd (rt (pr p)) _=_;rw [ay,if_pos (show (pr p).depth<=60 from (by decide:1<=60)),sW,e1];show rt (Out.nx _)=_;rw [iU,e2,<-hla];rfl
  ·rw [Ly MK] at ht;refine FV ht ?_;rw [hla,List.erase_of_not_mem MK];rfl) need [] _ (fun a ha=>ha) (by simpa using hl) ⟨none,rfl⟩
 rw [List.nil_append] at h;subst h;exact ⟨x4,e⟩
theorem mG (hand:List Tl) (j:Int) (need:List Tl) (hl:need.length<=1000):bT [.d (.list (hand.map pr)),.d (.int j),.d (.list (need.map pr))]=rt (.nwt [] ((aq hand need).map pr) [.int (j-((need.length:Int)-((hand.length:Int)-((aq hand need).length:Int))))]):=by
 obtain ⟨x4,e⟩:=Bw hand j need hl;unfold bT;refine d9 (x:=.tpo [] ((aq hand need).map pr) [.int (j-((need.length:Int)-((hand.length:Int)-((aq hand need).length:Int))))]) ?_;unfold qL;refine gM (δ':=oδ hand j need hand none none) (eE (x:=.new (hand.map pr)) ((cC (bp (x:=.d (.list (hand.map pr))) rfl)).trans rfl) rfl rfl) ?_;refine gM (δ':=oδ hand j need (aq hand need) x4 none) (mB (xs:=need.map pr) (fC rfl) e) ?_;refine gM (δ':=oδ hand j need (aq hand need) x4 (some (.d (.int ((hand.length:Int)-((aq hand need).length:Int)))))) (eE (x:=.d (.int ((hand.length:Int)-((aq hand need).length:Int)))) ?_ rfl rfl) ?_
 ·exact (av (x:=.d (.int (hand.length:Int))) (y:=.d (.int ((aq hand need).length:Int))) ((cC (bp (x:=.d (.list (hand.map pr))) rfl)).trans (hJ hand)) ((cC (bp (x:=.own ((aq hand need).map pr)) rfl)).trans (oM _))).trans (cM _ _)
 ·refine bD ?_;unfold AN;rw [bQ (x:=.own ((aq hand need).map pr)) (y:=.d (.int (j-((need.length:Int)-((hand.length:Int)-((aq hand need).length:Int)))))) rfl ((av (x:=.d (.int j)) (y:=.d (.int ((need.length:Int)-((hand.length:Int)-((aq hand need).length:Int))))) rfl ((av (x:=.d (.int (need.length:Int))) (y:=.d (.int ((hand.length:Int)-((aq hand need).length:Int)))) ((cC (bp (x:=.d (.list (need.map pr))) rfl)).trans (hJ need)) rfl).trans (cM _ _))).trans (cM _ _)),ay];rfl
variable {j:Int}
theorem Co (C E:Addr) {m c:Int} {ps:List Tl} (hl:ps.length<=1000) (hn:mQ m c ps j=true):eS C E [hs C m c,.d (.list (ps.map pr)),.d (.int j)]=rt (.d .none):=by
 have h:=Ho C m c j ps hl;rw [hn] at h;unfold eS lW eT;rw [FV (oG (bf (aV (gw (x:=hs C m c) (y:=.d (.list (ps.map pr))) (z:=.d (.int j)) rfl rfl rfl) rfl rfl h)) rfl) rfl];rfl
theorem oX {α:Type} {f:α->D} {fe:DS->M DV} {δ:DS} {g:α->D}:∀{as:List α},(∀a∈as,∃y,fe (δ.set 0 (some (.d (f a))))=rt y/\uh y=some (g a))->cH (ar 0) bN fe δ (as.map f)=some (as.map g)
 |[],_=>rfl
 |a::r,h=>by
  obtain ⟨y,h1,h2⟩:=h a K5;have ih:=oX (f:=f) (g:=g) (fe:=fe) (δ:=δ) (as:=r) fun b hb=>h b (K3 _ hb);rw [List.map_cons,List.map_cons,cH];simp only [ar,bN,rt] at h1 ⊢;simp only [h1,h2,ih]
variable {P:Program} {w:World} {CT:Addr} {n:Nat} {l:By} {f:PyData->Option Int} {U:List PyData} {x:DV}
theorem i4 {fm:List DV->M DV} {fo:DS->M DV} {fr:DS->M (List DV)} {δ:DS} {ys zs:List DV} (h1:fo δ=rt (.fz (.tb P w CT l f U))) (h2:fr δ=rt ys) (h3:args ys=some zs) (h4:zs.length+1=n) (h5:fm (.fz (.tb P w CT l f U)::zs)=rt x):fZ P w CT n fm fo fr δ=rt x:=by
 unfold fZ;rw [h1,ay,lQ,aP,ay,h2,ay];unfold aw;rw [gi,h3];show bd (rt (DV.fz (.tb P w CT l f U)::zs)) _=_;rw [ay,if_pos (by rw [List.length_cons]; exact h4),h5];rfl
variable {t:Tl}
theorem Hm {fo fe ff:DS->M DV} {δ:DS} (h1:fo δ=rt (.fz (.tb P w CT l f U))) (h2:fe δ=rt (.d (pr t))) (h3:ff δ=rt (.new [])):E9 P w CT fo fe ff δ=rt (.d (.list ((c0 l t).map wD))):=by
 unfold E9;rw [h1,ay,lQ,aP,ay,h2,ay];show bd (rt t) _=_;rw [ay,h3];rfl
noncomputable def dQ (q:List Tl×Int):D:=.tuple [.list (q.1.map pr),.int q.2]
theorem IS {α:Type} (x:α) (r:List α):atI (x::r) 0=some x:=by
 unfold atI Cy;simp
structure Good (l:By):Prop where
 mem:∀t w,w∈c0 l t->t∈w
 len:∀t w,w∈c0 l t->w.length<=1000
 few:∀t,(c0 l t).length<=800000
section
variable {P:Program} {w:World} {CT:Addr} {l:By} {f:PyData->Option Int} {U:List PyData}
theorem ju (g:Good l) (t:Tl) (r:List Tl) (j:Int):pz P w CT [.fz (.tb P w CT l f U),.d (.list ((t::r).map pr)),.d (.int j)]=rt (.new ((fJ l (t::r) j).map dQ)):=by
 unfold pz;refine d9 (x:=.new ((fJ l (t::r) j).map dQ)) ?_;unfold BZ;refine gM (δ':=[some (.fz (.tb P w CT l f U)),some (.d (.list ((t::r).map pr))),some (.d (.int j)),some (.own ((c0 l t).map fun w=>dQ (aq (t::r) w,jl (t::r) j w)))]) (eE (x:=.new ((c0 l t).map fun w=>dQ (aq (t::r) w,jl (t::r) j w))) ?_ rfl rfl) ?_
 ·refine br (xs:=(c0 l t).map wD) (fC (Hm (l:=l) (f:=f) (U:=U) (t:=t) rfl ((av (x:=.d (.list ((t::r).map pr))) (y:=.d (.int 0)) rfl rfl).trans (oF (IS _ _))) rfl)) (by rw [List.length_map]; exact Lw (g.few t) 0x3) ?_;refine oX fun w' hw=>⟨_,aV (n:=3) (x:=.nwt [] ((aq (t::r) w').map pr) [.int (jl (t::r) j w')]) (gw (x:=.d (.list ((t::r).map pr))) (y:=.d (.int j)) (z:=.d (.list (w'.map pr))) rfl rfl rfl) rfl rfl (mG (t::r) j w' (g.len t w' hw)),rfl⟩
 ·show bx _ [some (.fz (.tb P w CT l f U)),some (.d (.list ((t::r).map pr))),some (.d (.int j)),some (.d (.list ((c0 l t).map fun w=>dQ (aq (t::r) w,jl (t::r) j w))))]=_;refine bD (br (xs:=((c0 l t).map fun w=>(aq (t::r) w,jl (t::r) j w)).map dQ) (fC (by show rt _=rt _; rw [List.map_map]; rfl)) (by rw [List.length_map,List.length_map]; exact Lw (g.few t) 0x3) ?_);refine (eF (f:=dQ) (b:=fun q=>decide (0<=q.2)) (g:=dQ) fun q _=>⟨bf ((av (x:=.d (.int q.2)) (y:=.d (.int 0)) ((av (x:=.d (dQ q)) (y:=.d (.int 1)) rfl rfl).trans (aH rfl)) rfl).trans (iL _ _)),rfl⟩).trans ?_;rfl
end
theorem tL {l:By} (g:Good l):∀(n m:Nat) (h:List Tl) (j:Int),h.length<=n->h.length<=m->LL l n h j=LL l m h j
 |n,m,[],j,_,_=>by cases n <;> cases m <;> rfl
 |0,_,t::r,j,h,_=>by simp at h
 |_+1,0,t::r,j,_,h=>by simp at h
 |n+1,m+1,t::r,j,h1,h2=>by
  rw [List.length_cons] at h1 h2;show xQ ((t.1+LL l n r j)::(fJ l (t::r) j).map fun q=>LL l n q.1 q.2)=xQ ((t.1+LL l m r j)::(fJ l (t::r) j).map fun q=>LL l m q.1 q.2);rw [tL g n m r j 0x1 0x1];congr 2;refine List.map_congr_left fun q hq=>?_;obtain ⟨w,hw,rfl,_⟩:=n9 hq;have:=g8 (r:=r) (g.mem t w hw);exact tL g n m _ _ (by show (aq (t::r) w).length<=n; lia) (by show (aq (t::r) w).length<=m; lia)
noncomputable def dz (l:By) (h:List Tl) (j:Int):Int:=LL l h.length h j
theorem Ec (l:By) (j:Int):dz l [] j=0:=rfl
theorem Aj (g:Good l) (t:Tl) (r:List Tl) (j:Int):dz l (t::r) j=xQ ((t.1+dz l r j)::(fJ l (t::r) j).map fun q=>dz l q.1 q.2):=by
 show xQ ((t.1+LL l r.length r j)::(fJ l (t::r) j).map fun q=>LL l r.length q.1 q.2)=_;congr 2;refine List.map_congr_left fun q hq=>?_;obtain ⟨w,hw,rfl,_⟩:=n9 hq;exact tL g _ _ _ _ (g8 (g.mem t w hw)) (K9 _)
noncomputable def kD (h:List Tl) (j:Int):D:=.tuple [.tuple (h.map pr),.int j]
noncomputable def fK (l:By) (k:D):Option Int:=match k with
 |.tuple [.tuple ts,.int j]=>(cq ts).map fun h=>dz l h j
 |_=>none
theorem Iw (l:By) (h:List Tl) (j:Int):fK l (kD h j)=some (dz l h j):=by
 show (cq (h.map pr)).map _=_;rw [show cq (h.map pr)=some h from dF h]; rfl
theorem Hl (h:List Tl) (j:Int):cN (kD h j)=true/\(kD h j).depth<=6:=by
 have k1:∀h:List Tl,fq (h.map pr)=true:=fun h=>by
  induction h with
  |nil=>rfl
  |cons t r ih=>rw [List.map_cons,fq,ih]; rfl
 have k2:∀h:List Tl,PyData.depthAll (h.map pr)<=1:=fun h=>by
  induction h with
  |nil=>decide
  |cons t r ih=>
   rw [List.map_cons,PyData.depthAll];have:(pr t).depth=1:=rfl;lia
 have:=k2 h;refine ⟨?_,?_⟩
 ·show (fq (h.map pr)&&true)=true;rw [k1]; rfl
 ·show max (PyData.depthAll (h.map pr)+1) (max 0 0)+1<=6;lia
structure Cnd (l:By) (f:PyData->Option Int) (U:List PyData) (h:List Tl) (j:Int):Prop where
 good:Good l
 fn:f=fK l
 few:U.length<=1000000
 mem:∀h',h'.Sublist h->∀j',0<=j'->j'<=j->kD h' j'∈U
 j0:0<=j
variable {h:List Tl}
theorem Cnd.sub {h':List Tl} {j':Int} (c:Cnd l f U h j) (hs:h'.Sublist h) (h0:0<=j') (hj:j'<=j):Cnd l f U h' j':=
 ⟨c.good,c.fn,c.few,fun a ha b b0 hb=>c.mem a (ha.trans hs) b b0 (LG hb hj),h0⟩
open Classical in
noncomputable def l8 (P:Program) (w:World) (CT:Addr) (n:Nat) (xs:List DV):M DV:=match xs with
 |[x,.d (.list ts),.d (.int j)]=>bd (op (nc P w CT x)) fun q=>bd (op (cq ts)) fun h=>if Cnd q.1 q.2.1 q.2.2 h j/\h.length<=n then rt (.d (.int (dz q.1 h j))) else none
 |_=>none
open Classical in
noncomputable def Bm (P:Program) (w:World) (CT:Addr) (n:Nat) (xs:List DV):M DV:=match xs with
 |[x,.d (.list ts),.d (.int j)]=>bd (op (nc P w CT x)) fun q=>bd (op (cq ts)) fun h=>if Cnd q.1 q.2.1 q.2.2 h j/\h.length<=n+1/\h≠[] then rt (.d (.int (dz q.1 h j))) else none
 |_=>none
section
variable {P:Program} {w:World} {CT:Addr} {l:By} {f:PyData->Option Int} {U:List PyData}
theorem AS (c:Cnd l f U h j) (hn:h.length<=n):l8 P w CT n [.fz (.tb P w CT l f U),.d (.list (h.map pr)),.d (.int j)]=rt (.d (.int (dz l h j))):=by
 show bd (op (nc P w CT _)) _=_;rw [lQ,aP,ay];show bd (op (cq (h.map pr))) _=_;rw [show cq (h.map pr)=some h from dF h,aP,ay];exact if_pos ⟨c,hn⟩
variable {xs:List DV}
theorem FD (e:l8 P w CT n xs=some (.ok x)):∃l f U h j,xs=[.fz (.tb P w CT l f U),.d (.list (h.map pr)),.d (.int j)]/\Cnd l f U h j/\h.length<=n/\x=.d (.int (dz l h j)):=by
 unfold l8 at e;split at e
 ·rename_i y ts j;obtain ⟨⟨l,f,U⟩,e0,e1⟩:=bu e;have hy:=iu e0;subst hy;obtain ⟨h,e2,e3⟩:=bu e1;have ht:=jZ e2;subst ht;split at e3
  ·rename_i c;cases e3;exact ⟨l,f,U,h,j,rfl,c.1,c.2,rfl⟩
  ·cases e3
 ·cases e
variable {r:List Tl}
theorem Ij (c:Cnd l f U (t::r) j) (hn:(t::r).length<=n+1):Bm P w CT n [.fz (.tb P w CT l f U),.d (.list ((t::r).map pr)),.d (.int j)]=rt (.d (.int (dz l (t::r) j))):=by
 show bd (op (nc P w CT _)) _=_;rw [lQ,aP,ay];show bd (op (cq ((t::r).map pr))) _=_;rw [show cq ((t::r).map pr)=some (t::r) from dF _,aP,ay];exact if_pos ⟨c,hn,0x4⟩
theorem Ja (e:Bm P w CT n xs=some (.ok x)):∃l f U t r j,xs=[.fz (.tb P w CT l f U),.d (.list ((t::r).map pr)),.d (.int j)]/\Cnd l f U (t::r) j/\(t::r).length<=n+1/\x=.d (.int (dz l (t::r) j)):=by
 unfold Bm at e;split at e
 ·rename_i y ts j;obtain ⟨⟨l,f,U⟩,e0,e1⟩:=bu e;have hy:=iu e0;subst hy;obtain ⟨h,e2,e3⟩:=bu e1;have ht:=jZ e2;subst ht;split at e3
  ·rename_i c;cases e3;cases h with
   |nil=>exact absurd rfl c.2.2
   |cons t r=>exact ⟨l,f,U,t,r,j,rfl,c.1,c.2.1,rfl⟩
  ·cases e3
 ·cases e
theorem nE {ms:List DV->M DV} (j:Int):dg P w CT ms [x,.d (.list []),.d (.int j)]=rt (.d (.int 0)):=by
 unfold dg;refine d9 (x:=.d (.int 0)) ?_;unfold iS;rfl
theorem CN (xs:List D):lV [.d (.list xs)]=rt (.d (.tuple xs)):=rfl
theorem tF {ms:List DV->M DV} (c:Cnd l f U (t::r) j) (hs:ms [.fz (.tb P w CT l f U),.d (.list ((t::r).map pr)),.d (.int j)]=rt (.d (.int (dz l (t::r) j)))):dg P w CT ms [.fz (.tb P w CT l f U),.d (.list ((t::r).map pr)),.d (.int j)]=rt (.d (.int (dz l (t::r) j))):=by
 unfold dg;refine d9 (x:=.d (.int (dz l (t::r) j))) ?_;unfold iS;refine gM (δ':=[some (.fz (.tb P w CT l f U)),some (.d (.list ((t::r).map pr))),some (.d (.int j)),none]) rfl ?_;refine gM (δ':=[some (.fz (.tb P w CT l f U)),some (.d (.list ((t::r).map pr))),some (.d (.int j)),some (.d (kD (t::r) j))]) (eE (x:=.d (kD (t::r) j)) ?_ rfl rfl) ?_
 ·unfold bj;rw [bQ (x:=.d (.tuple ((t::r).map pr))) (y:=.d (.int j)) ((cC (bp (x:=.d (.list ((t::r).map pr))) rfl)).trans (CN _)) rfl];rfl
 ·unfold yb;show bd (op (nc P w CT (.fz (.tb P w CT l f U)))) _=_;rw [lQ,aP,ay];show bd (op (f (kD (t::r) j))) _=_;rw [c.fn,Iw,aP,ay];have hk:=Hl (t::r) j;refine if_pos ⟨hk.1,hk.2,c.mem _ (List.Sublist.refl _) j c.j0 (Int.le_refl _),c.few,?_⟩;exact i4 (l:=l) (f:=fK l) (U:=U) (ys:=[.d (.list ((t::r).map pr)),.d (.int j)]) rfl (bQ rfl rfl) rfl rfl (by rw [<-c.fn]; exact hs)
noncomputable def sδ (P:Program) (w:World) (CT:Addr) (l:By) (f:PyData->Option Int) (U:List PyData) (h:List Tl) (j:Int) (ns:List Int) (x4 x5:Option DV):DS:=[some (.fz (.tb P w CT l f U)),some (.d (.list (h.map pr))),some (.d (.int j)),some (.own (ns.map PyData.int)),x4,x5]
theorem uX {ml:List DV->M DV} {h:List Tl} {j:Int} (g:List Tl×Int->Int):∀(qs:List (List Tl×Int)) (ns:List Int) (x4 x5:Option DV),(∀q∈qs,ml [.fz (.tb P w CT l f U),.d (.list (q.1.map pr)),.d (.int q.2)]=rt (.d (.int (g q))))->ns.length+qs.length<=900000 ->
  ∃y4 y5,dw (kP 2 (cJ (ar 4) (cJ (ar 5) lS))) (kj 3 (fZ P w CT 3 ml (af 0) (aa (af 4) (aa (af 5) ai)))) (qs.map dQ) (sδ P w CT l f U h j ns x4 x5)=rt (.nx (sδ P w CT l f U h j (ns++qs.map g) y4 y5))
 |[],ns,x4,x5,_,_=>⟨x4,x5,by rw [List.map_nil,List.map_nil,List.append_nil]; rfl⟩
 |q::qs,ns,x4,x5,hq,hl=>by
  rw [List.length_cons] at hl;obtain ⟨y4,y5,ih⟩:=uX (h:=h) (j:=j) g qs (ns++[g q]) (some (.d (.list (q.1.map pr)))) (some (.d (.int q.2))) (fun z hz=>hq z (K3 _ hz)) (by rw [List.length_append,List.length_singleton]; lia);refine ⟨y4,y5,?_⟩;rw [List.map_cons,dw];have e0:kP 2 (cJ (ar 4) (cJ (ar 5) lS)) (dQ q) (sδ P w CT l f U h j ns x4 x5)=some (sδ P w CT l f U h j ns (some (.d (.list (q.1.map pr)))) (some (.d (.int q.2)))):=rfl;rw [e0,aP,ay];have e1:kj 3 (fZ P w CT 3 ml (af 0) (aa (af 4) (aa (af 5) ai))) (sδ P w CT l f U h j ns (some (.d (.list (q.1.map pr)))) (some (.d (.int q.2))))=rt (.nx (sδ P w CT l f U h j (ns++[g q]) (some (.d (.list (q.1.map pr)))) (some (.d (.int q.2))))):=by
   unfold kj;show bd (fZ P w CT 3 ml (af 0) (aa (af 4) (aa (af 5) ai)) (sδ P w CT l f U h j ns (some (.d (.list (q.1.map pr)))) (some (.d (.int q.2))))) _=_;have em:fZ P w CT 3 ml (af 0) (aa (af 4) (aa (af 5) ai)) (sδ P w CT l f U h j ns (some (.d (.list (q.1.map pr)))) (some (.d (.int q.2))))=rt (.d (.int (g q))):=i4 (l:=l) (f:=f) (U:=U) (ys:=[.d (.list (q.1.map pr)),.d (.int q.2)]) rfl (bQ rfl rfl) rfl rfl (hq q K5);rw [em,ay];show bd (rt (PyData.int (g q))) _=_;rw [ay,if_pos (by rw [List.length_map]; lia)];unfold sδ;rw [List.map_append];rfl
  rw [e1,ay,kY,ih,List.append_assoc];rfl
theorem Cb {ml:List DV->M DV} (c:Cnd l f U (t::r) j)
  (h1:ml [.fz (.tb P w CT l f U),.d (.list (r.map pr)),.d (.int j)]=rt (.d (.int (dz l r j)))) (h2:∀q∈fJ l (t::r) j,ml [.fz (.tb P w CT l f U),.d (.list (q.1.map pr)),.d (.int q.2)]=rt (.d (.int (dz l q.1 q.2))))
  (Mq:(fJ l (t::r) j).length<=800000):eW P w CT (pz P w CT) ml [.fz (.tb P w CT l f U),.d (.list ((t::r).map pr)),.d (.int j)]=rt (.d (.int (dz l (t::r) j))):=by
 obtain ⟨y4,y5,e⟩:=uX (P:=P) (w:=w) (CT:=CT) (l:=l) (f:=f) (U:=U) (ml:=ml) (h:=t::r) (j:=j) (fun q=>dz l q.1 q.2) (fJ l (t::r) j) [t.1+dz l r j] none none h2 (by rw [List.length_singleton]; lia);unfold eW;refine d9 (x:=.d (.int (dz l (t::r) j))) ?_;unfold jn;refine gM (δ':=sδ P w CT l f U (t::r) j [t.1+dz l r j] none none) (eE (x:=.new [.int (t.1+dz l r j)]) ?_ rfl rfl) ?_
 ·unfold cw;rw [bp (x:=.d (.int (t.1+dz l r j))) ?_]
  ·rfl
  ·refine (av (x:=.d (.int t.1)) (y:=.d (.int (dz l r j))) ?_ ?_).trans (bF _ _)
   ·exact (av (x:=.d (pr t)) (y:=.d (.int 0)) ((av (x:=.d (.list ((t::r).map pr))) (y:=.d (.int 0)) rfl rfl).trans (oF (IS _ _))) rfl).trans (aH rfl)
   ·refine i4 (l:=l) (f:=f) (U:=U) (ys:=[.new (r.map pr),.d (.int j)]) rfl (bQ ?_ rfl) rfl rfl h1;show rt (DV.new (qr ((t::r).map pr) (some 1) none))=_;have:qr ((t::r).map pr) (some 1) none=r.map pr:=by
     unfold qr HT.sIx;simp;exact List.take_of_length_le 0x4
    rw [this]
 ·refine gM (δ':=sδ P w CT l f U (t::r) j ([t.1+dz l r j]++(fJ l (t::r) j).map fun q=>dz l q.1 q.2) y4 y5) (mB (xs:=(fJ l (t::r) j).map dQ) (vU (i4 (l:=l) (f:=f) (U:=U) (ys:=[.d (.list ((t::r).map pr)),.d (.int j)]) rfl (bQ rfl rfl) rfl rfl (ju c.good t r j))) e) ?_;refine bD ((cC (bp rfl)).trans ?_);unfold ym;simp only [ma,aP,ay];rw [mw,aP,ay,if_pos 0x4,Aj c.good];rfl
theorem uf {q:List Tl×Int} (c:Cnd l f U (t::r) j) (h:q∈fJ l (t::r) j):Cnd l f U q.1 q.2/\q.1.length<=r.length:=by
 obtain ⟨w,hw,rfl,h0⟩:=n9 h;exact ⟨c.sub (cp _ _) h0 (jw _ _ _),g8 (c.good.mem t w hw)⟩
theorem AL (g:Good l) (t:Tl) (r:List Tl) (j:Int):(fJ l (t::r) j).length<=800000:=
 Lw (List.length_filter_le _ _) (by rw [List.length_map]; exact g.few t)
theorem DE (e:Bm P w CT n xs=some (.ok x)):eW P w CT (pz P w CT) (l8 P w CT n) xs=some (.ok x):=by
 obtain ⟨l,f,U,t,r,j,rfl,c,hl,rfl⟩:=Ja e;rw [List.length_cons] at hl;exact Cb c (AS (c.sub (List.sublist_cons_self t r) c.j0 (Int.le_refl _)) 0x1) (fun q hq=>AS (uf c hq).1 (by have:=(uf c hq).2; lia)) (AL c.good t r j)
theorem C4 (e:l8 P w CT (n+1) xs=some (.ok x)):dg P w CT (Bm P w CT n) xs=some (.ok x):=by
 obtain ⟨l,f,U,h,j,rfl,c,hl,rfl⟩:=FD e;cases h with
 |nil=>exact nE j
 |cons t r=>exact tF c (Ij c hl)
theorem Ew (e:l8 P w CT 0 xs=some (.ok x)):dg P w CT (fun _=>none) xs=some (.ok x):=by
 obtain ⟨l,f,U,h,j,rfl,c,hl,rfl⟩:=FD e;cases h with
 |nil=>exact nE j
 |cons t r=>simp at hl
end
noncomputable def og (m c:Nat) (h:List Tl) (j:Int):List Ml:=(t9 m c).filter fun y=>decide (0<=jl h j (tl y))
noncomputable def kQ (y:Ml):D:=.tuple [md y,.list ((tl y).map pr)]
variable {m c:Nat}
theorem tJ (hm:m<=13) (h4:c<=4):(t9 m c).length<=1000:=by
 have h1:(t9 m c).length=(cW m c).length:=by rw [<-tj,List.length_map]
 have h2:=jE (n6 c) m;have h3:=mK m c hm;unfold cW at h1;rw [List.length_append] at h1;have:169*c<=169*4:=Nat.mul_le_mul_left _ h4;lia
theorem vF (C E:Addr) (hm:m<=13) (h1:1<=c) (h4:c<=4) (h:List Tl) (j:Int):cR C E [hs C m c,.d (.list (h.map pr)),.d (.int j)]=rt (.new ((og m c h j).map kQ)):=by
 have hl:=tJ hm h4;unfold cR;refine d9 (x:=.new ((og m c h j).map kQ)) ?_;unfold ig;refine gM (δ':=[some (hs C m c),some (.d (.list (h.map pr))),some (.d (.int j)),some (.own ((t9 m c).map kQ))]) (eE (x:=.new ((t9 m c).map kQ)) ?_ rfl rfl) ?_
 ·refine br (xs:=(t9 m c).map md) (vU (aV (n:=1) (x:=.new ((t9 m c).map md)) (bp (x:=hs C m c) rfl) rfl rfl (by rw [tj]; exact C8 C m c hm h1 h4))) (by rw [List.length_map]; lia) ?_;refine oX fun y hy=>?_;obtain ⟨ok,oy⟩:=Bb hm h1 h4 hy;have ht:=ok.tiles C E;rw [if_pos oy] at ht;refine ⟨.d (kQ y),?_,rfl⟩;unfold bj;rw [bQ (x:=.d (md y)) (y:=.new ((tl y).map pr)) rfl (lU (n:=2) (bQ (x:=hs C m c) (y:=.d (md y)) rfl rfl) rfl rfl ht)];rfl
 ·show bx _ [some (hs C m c),some (.d (.list (h.map pr))),some (.d (.int j)),some (.d (.list ((t9 m c).map kQ)))]=_;refine bD (br (xs:=(t9 m c).map kQ) (fC rfl) (by rw [List.length_map]; lia) ?_);refine eF (f:=kQ) (b:=fun y=>decide (0<=jl h j (tl y))) (g:=kQ) fun y hy=>⟨?_,rfl⟩;have hw:(tl y).length<=1000:=by
   have:=(nh hm h1 h4 (w:=tl y) (Ll.mpr ⟨y,hy,rfl⟩)).2;lia
  refine bf ((av (x:=.d (.int (jl h j (tl y)))) (y:=.d (.int 0)) ?_ rfl).trans (iL _ _));refine (av (x:=.d (dQ (aq h (tl y),jl h j (tl y)))) (y:=.d (.int 1)) ?_ rfl).trans (aH rfl);unfold t4;rw [aV (n:=3) (x:=.nwt [] ((aq h (tl y)).map pr) [.int (jl h j (tl y))]) (gw (x:=.d (.list (h.map pr))) (y:=.d (.int j)) (z:=.d (.list ((tl y).map pr))) rfl rfl ((av (x:=.d (kQ y)) (y:=.d (.int 1)) rfl rfl).trans (aH rfl))) rfl rfl (mG h j (tl y) hw)];rfl
noncomputable def fR (l:By) (goal:Int) (w:List Tl):Nat->List Tl->Int->List Tl×Int×Nat
 |0,r,j=>(r,j,0)
 |n+1,r,j=>if 0<=jl r j w/\dz l (aq r w) (jl r j w)=goal then ((fR l goal w n (aq r w) (jl r j w)).1,(fR l goal w n (aq r w) (jl r j w)).2.1,(fR l goal w n (aq r w) (jl r j w)).2.2+1) else (r,j,0)
noncomputable def pV (l:By) (goal:Int):List Ml->List Tl->Int->List Ml
 |[],_,_=>[]
 |y::ys,r,j=>List.replicate (fR l goal (tl y) 100 r j).2.2 y++pV l goal ys (fR l goal (tl y) 100 r j).1 (fR l goal (tl y) 100 r j).2.1
section
variable {P:Program} {w:World} {CT:Addr} {l:By} {f:PyData->Option Int} {U:List PyData} {ml:List DV->M DV}
noncomputable def fδ (P:Program) (w:World) (CT:Addr) (l:By) (f:PyData->Option Int) (U:List PyData) (ps:List D) (h:List Tl) (j0 goal:Int) (acc:List D) (r:List Tl) (j:Int) (x8 x9 x10:Option DV):DS:=
 [some (.fz (.tb P w CT l f U)),some (.d (.list ps)),some (.d (.list (h.map pr))),some (.d (.int j0)),some (.d (.int goal)),some (.own acc),some (.d (.list (r.map pr))),some (.d (.int j)),x8,x9,x10]
noncomputable def Hr (P:Program) (w:World) (CT:Addr) (ml:List DV->M DV):DS->M Bool:=(kh (fun δ=>bd (e2 CF (e2 bz (af 10) (eC (.int 1))) (eC (.int 0)) δ) bR) (fun δ=>bd (e2 (iG false) (fZ P w CT 3 ml (af 0) (aa (e2 bz (af 10) (eC (.int 0))) (aa (e2 bz (af 10) (eC (.int 1))) ai))) (af 4) δ) bR))
noncomputable def HR:DS->M Out:=(bE (kj 5 (af 8)) (bE (aK 6 (e2 bz (af 10) (eC (.int 0)))) (bE (aK 7 (e2 bz (af 10) (eC (.int 1)))) (aK 10 (t4 (aR (aw 3 (bT)) (aa (af 6) (aa (af 7) (aa (af 9) ai)))))))))
theorem xv {ps:List D} {j0 goal:Int} {acc:List D} {r:List Tl} {x8 x10:Option DV} {y:List Tl} (hy:y.length<=1000):t4 (aR (aw 3 (bT)) (aa (af 6) (aa (af 7) (aa (af 9) ai)))) (fδ P w CT l f U ps h j0 goal acc r j x8 (some (.d (.list (y.map pr)))) x10)=rt (.d (dQ (aq r y,jl r j y))):=by
 unfold t4;rw [aV (n:=3) (x:=.nwt [] ((aq r y).map pr) [.int (jl r j y)]) (gw (x:=.d (.list (r.map pr))) (y:=.d (.int j)) (z:=.d (.list (y.map pr))) rfl rfl rfl) rfl rfl (mG r j y hy)];rfl
theorem fO {r y:List Tl} (h0:0<=jl r j y) (hj:j<=2) (hy:3<=y.length):(aq r y).length<r.length:=by
 have:=jR y r;unfold jl at h0;lia
theorem Fv {ps:List D} {h:List Tl} {j0 goal:Int} {y:List Tl} {d:D} (hy:y.length<=1000) (OU:3<=y.length) (hm:∀h' j',Cnd l f U h' j'->h'.length<=12->ml [.fz (.tb P w CT l f U),.d (.list (h'.map pr)),.d (.int j')]=rt (.d (.int (dz l h' j')))) :
  ∀(n:Nat) (r:List Tl) (j:Int) (acc:List D),r.length<n->r.length<=12->j<=2->Cnd l f U r j->acc.length+r.length<=1000 ->
   ∃q,zN (Hr P w CT ml) HR n (fδ P w CT l f U ps h j0 goal acc r j (some (.d d)) (some (.d (.list (y.map pr)))) (some (.d (dQ (aq r y,jl r j y)))))=rt (.nx (fδ P w CT l f U ps h j0 goal (acc++List.replicate (fR l goal y n r j).2.2 d) (fR l goal y n r j).1 (fR l goal y n r j).2.1 (some (.d d)) (some (.d (.list (y.map pr)))) q))
 |0,r,j,acc,hn,_,_,_,_=>by lia
 |n+1,r,j,acc,hn,hr,hj,c,ha=>by
  have t1:(fun δ=>bd (e2 CF (e2 bz (af 10) (eC (.int 1))) (eC (.int 0)) δ) bR) (fδ P w CT l f U ps h j0 goal acc r j (some (.d d)) (some (.d (.list (y.map pr)))) (some (.d (dQ (aq r y,jl r j y)))))=rt (decide (0<=jl r j y)):=
   bf ((av (x:=.d (.int (jl r j y))) (y:=.d (.int 0)) ((av (x:=.d (dQ (aq r y,jl r j y))) (y:=.d (.int 1)) rfl rfl).trans (aH rfl)) rfl).trans (iL _ _))
  have stop:Hr P w CT ml (fδ P w CT l f U ps h j0 goal acc r j (some (.d d)) (some (.d (.list (y.map pr)))) (some (.d (dQ (aq r y,jl r j y)))))=rt false->fR l goal y (n+1) r j=(r,j,0)->∃q,zN (Hr P w CT ml) HR (n+1) (fδ P w CT l f U ps h j0 goal acc r j (some (.d d)) (some (.d (.list (y.map pr)))) (some (.d (dQ (aq r y,jl r j y)))))=rt (.nx (fδ P w CT l f U ps h j0 goal (acc++List.replicate (fR l goal y (n+1) r j).2.2 d) (fR l goal y (n+1) r j).1 (fR l goal y (n+1) r j).2.1 (some (.d d)) (some (.d (.list (y.map pr)))) q)):=fun e1 e2=>by
   refine ⟨some (.d (dQ (aq r y,jl r j y))),?_⟩;rw [e2,zN,e1,ay,if_neg 0x3];show _=rt (Out.nx (fδ P w CT l f U ps h j0 goal (acc++[]) r j _ _ _));rw [List.append_nil]
  by_cases h0:0<=jl r j y
  ·rw [Lz h0] at t1;have cs:Cnd l f U (aq r y) (jl r j y):=c.sub (cp _ _) h0 (jw _ _ _);have LV:=fO h0 hj OU;have em:fZ P w CT 3 ml (af 0) (aa (e2 bz (af 10) (eC (.int 0))) (aa (e2 bz (af 10) (eC (.int 1))) ai)) (fδ P w CT l f U ps h j0 goal acc r j (some (.d d)) (some (.d (.list (y.map pr)))) (some (.d (dQ (aq r y,jl r j y)))))=rt (.d (.int (dz l (aq r y) (jl r j y)))):=
    i4 (l:=l) (f:=f) (U:=U) (ys:=[.d (.list ((aq r y).map pr)),.d (.int (jl r j y))]) rfl (bQ ((av (x:=.d (dQ (aq r y,jl r j y))) (y:=.d (.int 0)) rfl rfl).trans (aH rfl)) ((av (x:=.d (dQ (aq r y,jl r j y))) (y:=.d (.int 1)) rfl rfl).trans (aH rfl))) rfl rfl (hm _ _ cs 0x1)
   have t2:Hr P w CT ml (fδ P w CT l f U ps h j0 goal acc r j (some (.d d)) (some (.d (.list (y.map pr)))) (some (.d (dQ (aq r y,jl r j y)))))=rt (dz l (aq r y) (jl r j y)==goal):=by
    unfold Hr;exact E2 t1 (bf ((av (x:=.d (.int (dz l (aq r y) (jl r j y)))) (y:=.d (.int goal)) em rfl).trans (l5 _ _)))
   by_cases he:dz l (aq r y) (jl r j y)=goal
   ·have hb:(dz l (aq r y) (jl r j y)==goal)=true:=by simpa using he
    rw [hb] at t2;obtain ⟨q,ih⟩:=Fv (ps:=ps) (h:=h) (j0:=j0) (goal:=goal) (d:=d) hy OU hm n (aq r y) (jl r j y) (acc++[d]) 0x1 0x1 (LG (jw _ _ _) hj) cs (by rw [List.length_append,List.length_singleton]; lia);have ew:fR l goal y (n+1) r j=((fR l goal y n (aq r y) (jl r j y)).1,(fR l goal y n (aq r y) (jl r j y)).2.1,(fR l goal y n (aq r y) (jl r j y)).2.2+1):=if_pos ⟨h0,he⟩;refine ⟨q,?_⟩;rw [ew,zN,t2,ay,if_pos rfl];have eb:HR (fδ P w CT l f U ps h j0 goal acc r j (some (.d d)) (some (.d (.list (y.map pr)))) (some (.d (dQ (aq r y,jl r j y)))))=rt (.nx (fδ P w CT l f U ps h j0 goal (acc++[d]) (aq r y) (jl r j y) (some (.d d)) (some (.d (.list (y.map pr)))) (some (.d (dQ (aq (aq r y) y,jl (aq r y) (jl r j y) y)))))):=by
     unfold HR;refine gM (δ':=fδ P w CT l f U ps h j0 goal (acc++[d]) r j (some (.d d)) (some (.d (.list (y.map pr)))) (some (.d (dQ (aq r y,jl r j y))))) (vQ (xs:=acc) rfl rfl rfl 0x1) ?_;refine gM (δ':=fδ P w CT l f U ps h j0 goal (acc++[d]) (aq r y) j (some (.d d)) (some (.d (.list (y.map pr)))) (some (.d (dQ (aq r y,jl r j y))))) (eE (x:=.d (.list ((aq r y).map pr))) ((av (x:=.d (dQ (aq r y,jl r j y))) (y:=.d (.int 0)) rfl rfl).trans (aH rfl)) rfl rfl) ?_;refine gM (δ':=fδ P w CT l f U ps h j0 goal (acc++[d]) (aq r y) (jl r j y) (some (.d d)) (some (.d (.list (y.map pr)))) (some (.d (dQ (aq r y,jl r j y))))) (eE (x:=.d (.int (jl r j y))) ((av (x:=.d (dQ (aq r y,jl r j y))) (y:=.d (.int 1)) rfl rfl).trans (aH rfl)) rfl rfl) ?_;exact eE (x:=.d (dQ (aq (aq r y) y,jl (aq r y) (jl r j y) y))) (xv hy) rfl rfl
    rw [eb,ay];show zN (Hr P w CT ml) HR n _=_;rw [ih,List.append_assoc];rfl
   ·have hb:(dz l (aq r y) (jl r j y)==goal)=false:=by simpa using he
    rw [hb] at t2;exact stop t2 (if_neg fun z=>he z.2)
  ·rw [Ly h0] at t1;exact stop (Gq t1) (if_neg fun z=>h0 z.1)
theorem qd {goal:Int} {y:List Tl} (OU:3<=y.length):∀(n:Nat) (r:List Tl) (j:Int),0<=j->j<=2->(fR l goal y n r j).1.Sublist r/\0<=(fR l goal y n r j).2.1/\(fR l goal y n r j).2.1<=j/\(fR l goal y n r j).2.2+(fR l goal y n r j).1.length<=r.length
 |0,r,j,h0,h2=>⟨List.Sublist.refl _,h0,Int.le_refl _,by show 0+r.length<=r.length; lia⟩
 |n+1,r,j,h0,h2=>by
  by_cases hc:0<=jl r j y/\dz l (aq r y) (jl r j y)=goal
  ·have ew:fR l goal y (n+1) r j=((fR l goal y n (aq r y) (jl r j y)).1,(fR l goal y n (aq r y) (jl r j y)).2.1,(fR l goal y n (aq r y) (jl r j y)).2.2+1):=if_pos hc;obtain ⟨a,b,c,d⟩:=qd OU n (aq r y) (jl r j y) hc.1 (LG (jw _ _ _) h2);have:=fO hc.1 h2 OU;have hle:=jw r j y;rw [ew];exact ⟨a.trans (cp _ _),b,by show (fR l goal y n (aq r y) (jl r j y)).2.1<=j; lia,by show (fR l goal y n (aq r y) (jl r j y)).2.2+1+(fR l goal y n (aq r y) (jl r j y)).1.length<=r.length; lia⟩
  ·have ew:fR l goal y (n+1) r j=(r,j,0):=if_neg hc;rw [ew];exact ⟨List.Sublist.refl _,h0,Int.le_refl _,by show 0+r.length<=r.length; lia⟩
noncomputable def JX (P:Program) (w:World) (CT:Addr) (ml:List DV->M DV):DS->M Out:=(bE (aK 10 (t4 (aR (aw 3 (bT)) (aa (af 6) (aa (af 7) (aa (af 9) ai)))))) (zN (Hr P w CT ml) HR 100))
theorem xP {ps:List D} {h:List Tl} {j0 goal:Int} (hm:∀h' j',Cnd l f U h' j'->h'.length<=12->ml [.fz (.tb P w CT l f U),.d (.list (h'.map pr)),.d (.int j')]=rt (.d (.int (dz l h' j')))) :
  ∀(ys:List Ml) (r:List Tl) (j:Int) (acc:List D) (x8 x9 x10:Option DV),(∀y∈ys,3<=(tl y).length/\(tl y).length<=1000)->r.length<=12->j<=2->Cnd l f U r j->acc.length+r.length<=1000 ->
   ∃r' j' q8 q9 NA,dw (kP 2 (cJ (ar 8) (cJ (ar 9) lS))) (JX P w CT ml) (ys.map kQ) (fδ P w CT l f U ps h j0 goal acc r j x8 x9 x10)=rt (.nx (fδ P w CT l f U ps h j0 goal (acc++(pV l goal ys r j).map md) r' j' q8 q9 NA))
 |[],r,j,acc,x8,x9,x10,_,_,_,_,_=>⟨r,j,x8,x9,x10,by rw [List.map_nil,pV,List.map_nil,List.append_nil]; rfl⟩
 |y::ys,r,j,acc,x8,x9,x10,hy,hr,hj,c,ha=>by
  obtain ⟨h3,h1⟩:=hy y K5;obtain ⟨q,ew⟩:=Fv (P:=P) (w:=w) (CT:=CT) (ml:=ml) (ps:=ps) (h:=h) (j0:=j0) (goal:=goal) (d:=md y) h1 h3 hm 100 r j acc 0x1 hr hj c ha;obtain ⟨f1,f2,f3,f4⟩:=qd (l:=l) (goal:=goal) h3 100 r j c.j0 hj;have hlen:=f1.length_le;obtain ⟨r',j',q8,q9,NA,ih⟩:=xP (ps:=ps) (h:=h) (j0:=j0) (goal:=goal) hm ys (fR l goal (tl y) 100 r j).1 (fR l goal (tl y) 100 r j).2.1 (acc++List.replicate (fR l goal (tl y) 100 r j).2.2 (md y)) (some (.d (md y))) (some (.d (.list ((tl y).map pr)))) q (fun z hz=>hy z (K3 _ hz)) 0x1 0x1 (c.sub f1 f2 f3) (by rw [List.length_append,List.length_replicate]; lia);refine ⟨r',j',q8,q9,NA,?_⟩;rw [List.map_cons,dw];have e0:kP 2 (cJ (ar 8) (cJ (ar 9) lS)) (kQ y) (fδ P w CT l f U ps h j0 goal acc r j x8 x9 x10)=some (fδ P w CT l f U ps h j0 goal acc r j (some (.d (md y))) (some (.d (.list ((tl y).map pr)))) x10):=rfl;rw [e0,aP,ay];have e1:JX P w CT ml (fδ P w CT l f U ps h j0 goal acc r j (some (.d (md y))) (some (.d (.list ((tl y).map pr)))) x10)=rt (.nx (fδ P w CT l f U ps h j0 goal (acc++List.replicate (fR l goal (tl y) 100 r j).2.2 (md y)) (fR l goal (tl y) 100 r j).1 (fR l goal (tl y) 100 r j).2.1 (some (.d (md y))) (some (.d (.list ((tl y).map pr)))) q)):=by
   unfold JX;exact gM (δ':=fδ P w CT l f U ps h j0 goal acc r j (some (.d (md y))) (some (.d (.list ((tl y).map pr)))) (some (.d (dQ (aq r (tl y),jl r j (tl y)))))) (eE (x:=.d (dQ (aq r (tl y),jl r j (tl y)))) (xv h1) rfl rfl) ew
  rw [e1,ay,kY,ih,pV,List.map_append,List.map_replicate,List.append_assoc]
theorem EH {ys:List Ml} (hm:∀h' j',Cnd l f U h' j'->h'.length<=12->ml [.fz (.tb P w CT l f U),.d (.list (h'.map pr)),.d (.int j')]=rt (.d (.int (dz l h' j')))) (hy:∀y∈ys,3<=(tl y).length/\(tl y).length<=1000) (hr:h.length<=12) (hj:j<=2) (c:Cnd l f U h j) :
  dM P w CT ml [.fz (.tb P w CT l f U),.d (.list (ys.map kQ)),.d (.list (h.map pr)),.d (.int j)]=rt (.new ((pV l (dz l h j) ys h j).map md)):=by
 obtain ⟨r',j',q8,q9,NA,e⟩:=xP (P:=P) (w:=w) (CT:=CT) (ml:=ml) (ps:=ys.map kQ) (h:=h) (j0:=j) (goal:=dz l h j) hm ys h j [] none none none hy hr hj c (by simp; lia);unfold dM;refine d9 (x:=.own ((pV l (dz l h j) ys h j).map md)) ?_;unfold jr;refine gM (δ':=[some (.fz (.tb P w CT l f U)),some (.d (.list (ys.map kQ))),some (.d (.list (h.map pr))),some (.d (.int j)),some (.d (.int (dz l h j))),none,none,none,none,none,none]) (eE (x:=.d (.int (dz l h j))) (i4 (l:=l) (f:=f) (U:=U) (ys:=[.d (.list (h.map pr)),.d (.int j)]) rfl (bQ rfl rfl) rfl rfl (hm h j c hr)) rfl rfl) ?_;refine gM (δ':=[some (.fz (.tb P w CT l f U)),some (.d (.list (ys.map kQ))),some (.d (.list (h.map pr))),some (.d (.int j)),some (.d (.int (dz l h j))),some (.own []),none,none,none,none,none]) rfl ?_;refine gM (δ':=[some (.fz (.tb P w CT l f U)),some (.d (.list (ys.map kQ))),some (.d (.list (h.map pr))),some (.d (.int j)),some (.d (.int (dz l h j))),some (.own []),some (.d (.list (h.map pr))),none,none,none,none]) rfl ?_;refine gM (δ':=fδ P w CT l f U (ys.map kQ) h j (dz l h j) [] h j none none none) rfl ?_;refine gM (δ':=fδ P w CT l f U (ys.map kQ) h j (dz l h j) ([]++(pV l (dz l h j) ys h j).map md) r' j' q8 q9 NA) (mB (xs:=ys.map kQ) (fC rfl) e) ?_;exact bD rfl
end
theorem B6 (p q:Tl):le p q=true↔zO p q:=by
 obtain ⟨a,b⟩:=p;obtain ⟨c,d⟩:=q;show (!(HT.lexLt [c,d] [a,b]))=true↔zO (a,b) (c,d);unfold zO;simp only [HT.lexLt];by_cases h:c=a
 ·subst h;by_cases h2:d=b
  ·subst h2; simp
  ·simp [h2]
 ·simp [h]; lia
theorem Ak:∀{ps:List Tl},gO ps=true->ps.Pairwise zO
 |[],_=>List.Pairwise.nil
 |[a],_=>List.pairwise_singleton _ _
 |a::b::r,h=>by
  unfold gO at h;rw [show (a::b::r).length-1=(b::r).length from rfl,List.length_cons,List.range_succ_eq_map,List.all_cons,Bool.and_eq_true,List.all_map] at h;have h2:gO (b::r)=true:=h.2;have ih:=Ak h2;have Nt:zO a b:=(B6 a b).mp h.1;refine Lr.mpr ⟨fun x hx=>?_,ih⟩;rcases Lj.mp hx with e|hx
  ·rw [e]; exact Nt
  ·have:=(Lr.mp ih).1 x hx;unfold zO at *; lia
theorem Bn:∀{ps:List Tl},ps.Pairwise zO->gO ps=true
 |[],_=>rfl
 |[a],_=>rfl
 |a::b::r,h=>by
  rw [List.pairwise_cons] at h;unfold gO;rw [show (a::b::r).length-1=(b::r).length from rfl,List.length_cons,List.range_succ_eq_map,List.all_cons,Bool.and_eq_true,List.all_map];exact ⟨(B6 a b).mpr (h.1 b K5),Bn h.2⟩
structure Hand (m c:Nat) (h:List Tl) (j:Int):Prop where
 len:h.length<=12
 j0:0<=j
 j2:j<=2
 tile:∀p∈h,bt m c p=true
 two:∀p,mR h p<=2
 ord:h.Pairwise zO
theorem Bp:mQ m c h j=true↔(h.length<=12/\0<=j/\j<=2/\(∀p∈h,bt m c p=true/\mR h p<=2)/\gO h=true):=by
 unfold mQ jok tok;simp only [Bool.and_eq_true,decide_eq_true_eq,List.all_map,List.all_eq_true,Function.comp,id];constructor
 ·rintro ⟨⟨⟨h1,h2,h3⟩,h4⟩,h5⟩; exact ⟨h1,h2,h3,h4,h5⟩
 ·rintro ⟨h1,h2,h3,h4,h5⟩; exact ⟨⟨⟨h1,h2,h3⟩,h4⟩,h5⟩
theorem Hand.ok (H:Hand m c h j):mQ m c h j=true:=Bp.mpr ⟨H.len,H.j0,H.j2,fun p hp=>⟨H.tile p hp,H.two p⟩,Bn H.ord⟩
theorem Hand.pos (H:Hand m c h j):∀p∈h,0<=p.1:=fun p hp=>by
 have:=H.tile p hp;unfold bt at this;simp at this;lia
noncomputable def sF:List Tl->List (List Tl)
 |[]=>[[]]
 |x::r=>sF r++(sF r).map (x::·)
theorem oY:∀{h a:List Tl},a.Sublist h->a∈sF h
 |[],a,s=>by cases s; exact K5
 |x::r,a,s=>by
  unfold sF;cases s with
  |cons _ s=>exact K8 _ (oY s)
  |cons_cons _ s=>exact K7 _ (Ll.mpr ⟨_,oY s,rfl⟩)
theorem u7:∀h:List Tl,(sF h).length=2 ^ h.length
 |[]=>rfl
 |x::r=>by unfold sF; rw [List.length_append,List.length_map,u7 r,List.length_cons,Nat.pow_succ]; lia
noncomputable def UK (h:List Tl):List D:=(sF h).map (fun a=>kD a 0)++((sF h).map (fun a=>kD a 1)++(sF h).map fun a=>kD a 2)
theorem GG {a:List Tl} (s:a.Sublist h) (h0:0<=j) (h2:j<=2):kD a j∈UK h:=by
 have hm:=oY s;unfold UK;have:j=0\/j=1\/j=2:=by lia
 rcases this with e|e|e
 ·subst e; exact K8 _ (Ll.mpr ⟨a,hm,rfl⟩)
 ·subst e; exact K7 _ (K8 _ (Ll.mpr ⟨a,hm,rfl⟩))
 ·subst e; exact K7 _ (K7 _ (Ll.mpr ⟨a,hm,rfl⟩))
theorem FZ (hl:h.length<=12):(UK h).length<=1000000:=by
 have:2 ^ h.length<=2 ^ 12:=Nat.pow_le_pow_right 0x3 hl;unfold UK;rw [List.length_append,List.length_append,List.length_map,List.length_map,List.length_map,u7];lia
theorem yx {w:List Tl}:∀(ts:List Tl) (l:By) (n:Nat),t8 l n->t8 (ts.foldl (fun l t=>fj l t w) l) (n+ts.length)
 |[],l,n,h=>h
 |t::ts,l,n,h=>by
  have:=yx (w:=w) ts (fj l t w) (n+1) (h.add t w);rw [List.foldl_cons,List.length_cons,show n+(ts.length+1)=n+1+ts.length by lia];exact this
theorem t8.mono {k:Nat} (h:t8 l n) (hk:n<=k):t8 l k:=⟨Lw h.1 hk,fun p hp=>Lw (h.2 p hp) hk⟩
theorem BD:∀(LN:List (List Tl)) (l:By) (n:Nat),t8 l n->t8 (LN.foldl il l) (n+3*LN.length)
 |[],l,n,h=>h
 |w::LN,l,n,h=>by
  have h1:t8 (il l w) (n+3):=t8.mono (yx (w.take 3) l n h) (by rw [List.length_take]; lia);have:=BD LN (il l w) (n+3) h1;rw [List.foldl_cons,List.length_cons,show n+3*(LN.length+1)=n+3+3*LN.length by lia];exact this
theorem Ey {LN:List (List Tl)} (hl:LN.length<=1000) (hw:∀w∈LN,w.length<=1000):Good (kL LN):=by
 refine ⟨fun t w h=>?_,fun t w h=>hw w ((jo w t LN).mp h).1,fun t=>?_⟩
 ·exact (List.take_sublist 3 w).subset ((jo w t LN).mp h).2
 ·have:=BD LN [] 0 ⟨K9 _,fun _ h=>(nomatch h)⟩;unfold c0;cases e:(kL LN).find? fun x=>decide (x.1=t) with
  |none=>exact Lv _
  |some p=>
   have h2:=this.2 p (List.mem_of_find?_eq_some e);show p.2.length<=800000;lia
noncomputable def mf (m c:Nat) (h:List Tl) (j:Int):By:=kL ((og m c h j).map tl)
theorem Cu (hm:m<=13) (h4:c<=4) (h:List Tl) (j:Int):(og m c h j).length<=1000:=Lw (List.length_filter_le _ _) (tJ hm h4)
theorem wo {y:Ml} (hy:y∈og m c h j):y∈t9 m c/\0<=jl h j (tl y):=by
 obtain ⟨h1,h2⟩:=Lo.mp hy;exact ⟨h1,by simpa using h2⟩
theorem DM (hm:m<=13) (h1:1<=c) (h4:c<=4) (h:List Tl) (j:Int):Good (mf m c h j):=
 Ey (by rw [List.length_map]; exact Cu hm h4 h j) fun w hw=>by
  obtain ⟨y,hy,rfl⟩:=Ll.mp hw;have:=(nh hm h1 h4 (w:=tl y) (Ll.mpr ⟨y,(wo hy).1,rfl⟩)).2;lia
theorem Gh (hm:m<=13) (h1:1<=c) (h4:c<=4) (hl:h.length<=12) (h0:0<=j) (h2:j<=2) (j':Int):Cnd (mf m c h j') (fK (mf m c h j')) (UK h) h j:=
 ⟨DM hm h1 h4 h j',rfl,FZ hl,fun a ha b b0 hb=>GG ha b0 (LG hb h2),h0⟩
theorem rA:∀ys:List Ml,fX (ys.map kQ)=some (ys.map tl)
 |[]=>rfl
 |y::ys=>by
  rw [List.map_cons,fX,rA ys];have:Cd (kQ y)=some (tl y):=dF (tl y);rw [this]; rfl
noncomputable def GW (m c:Nat) (h:List Tl) (j:Int):Int:=aZ h-dz (mf m c h j) h j
noncomputable def BL (m c:Nat) (h:List Tl) (j:Int):List Ml:=pV (mf m c h j) (dz (mf m c h j) h j) (og m c h j) h j
section
variable {P:Program} {w:World} {C CT Eh El:Addr}
theorem Gf (hm:m<=13) (h1:1<=c) (h4:c<=4) (H:Hand m c h j):tR P w C CT Eh El (fK (mf m c h j)) (UK h) (l8 P w CT 12) [hs C m c,.d (.list (h.map pr)),.d (.int j)]=rt (.nwt [.int (GW m c h j)] ((BL m c h j).map md) []):=by
 have cn:=Gh hm h1 h4 H.len H.j0 H.j2 j;have hl:h.length<=1000:=by have:=H.len; lia
 have ml:∀h' j',Cnd (mf m c h j) (fK (mf m c h j)) (UK h) h' j'->h'.length<=12->l8 P w CT 12 [.fz (.tb P w CT (mf m c h j) (fK (mf m c h j)) (UK h)),.d (.list (h'.map pr)),.d (.int j')]=rt (.d (.int (dz (mf m c h j) h' j'))):=fun h' j' c' OD=>AS c' OD;unfold tR;refine d9 (x:=.nwt [.int (GW m c h j)] ((BL m c h j).map md) []) ?_;unfold sP;refine gM (δ':=[some (hs C m c),some (.d (.list (h.map pr))),some (.d (.int j)),none,none,none]) (E7 (x:=.d .none) (lU (n:=3) (gw (x:=hs C m c) (y:=.d (.list (h.map pr))) (z:=.d (.int j)) rfl rfl rfl) rfl rfl (Co C Eh hl H.ok))) ?_;refine gM (δ':=[some (hs C m c),some (.d (.list (h.map pr))),some (.d (.int j)),some (.own ((og m c h j).map kQ)),none,none]) (eE (x:=.new ((og m c h j).map kQ)) (lU (n:=3) (gw (x:=hs C m c) (y:=.d (.list (h.map pr))) (z:=.d (.int j)) rfl rfl rfl) rfl rfl (vF C El hm h1 h4 h j)) rfl rfl) ?_;show bE _ _ [some (hs C m c),some (.d (.list (h.map pr))),some (.d (.int j)),some (.d (.list ((og m c h j).map kQ))),none,none]=_;refine gM (δ':=[some (hs C m c),some (.d (.list (h.map pr))),some (.d (.int j)),some (.d (.list ((og m c h j).map kQ))),some (.fz (.tb P w CT (mf m c h j) (fK (mf m c h j)) (UK h))),none]) (eE (x:=.fz (.tb P w CT (mf m c h j) (fK (mf m c h j)) (UK h))) ((cC (bp (x:=.d (.list ((og m c h j).map kQ))) rfl)).trans ?_) rfl rfl) ?_
 ·show bd (op (fX ((og m c h j).map kQ))) _=_;rw [rA,aP,ay,if_pos (by rw [List.length_map]; exact Cu hm h4 h j)];rfl
 refine gM (δ':=[some (hs C m c),some (.d (.list (h.map pr))),some (.d (.int j)),some (.d (.list ((og m c h j).map kQ))),some (.fz (.tb P w CT (mf m c h j) (fK (mf m c h j)) (UK h))),some (.d (.int (GW m c h j)))]) (eE (x:=.d (.int (GW m c h j))) ?_ rfl rfl) ?_
 ·refine (av (x:=.d (.int (aZ h))) (y:=.d (.int (dz (mf m c h j) h j))) (aV (n:=1) (bp (x:=.d (.list (h.map pr))) rfl) rfl rfl (C7 h hl)) ?_).trans (cM _ _);exact i4 (l:=mf m c h j) (f:=fK (mf m c h j)) (U:=UK h) (ys:=[.d (.list (h.map pr)),.d (.int j)]) rfl (bQ rfl rfl) rfl rfl (ml h j cn H.len)
 ·show bx _ [some (hs C m c),some (.d (.list (h.map pr))),some (.d (.int j)),some (.d (.list ((og m c h j).map kQ))),some (.fz (.tb P w CT (mf m c h j) (fK (mf m c h j)) (UK h))),some (.d (.int (GW m c h j)))]=_;refine bD ?_;unfold BO;rw [bQ (x:=.d (.int (GW m c h j))) (y:=.new ((BL m c h j).map md)) rfl (aV (n:=4) (Bl (x:=.fz (.tb P w CT (mf m c h j) (fK (mf m c h j)) (UK h))) (y:=.d (.list ((og m c h j).map kQ))) (z:=.d (.list (h.map pr))) (u:=.d (.int j)) rfl rfl rfl rfl) rfl rfl (EH ml (fun y hy=>?_) H.len H.j2 cn))]
  ·rfl
  ·have:=nh hm h1 h4 (w:=tl y) (Ll.mpr ⟨y,(wo hy).1,rfl⟩);lia
end
noncomputable def gF (xs:List DV):PyData->Option Int:=match xs with
 |[.ob _ [(_,.int m),(_,.int c)],.d (.list ts),.d (.int j)]=>match cq ts with
  |some h=>fK (mf m.toNat c.toNat h j)
  |none=>fun _=>none
 |_=>fun _=>none
noncomputable def gU (xs:List DV):List PyData:=match xs with
 |[_,.d (.list ts),_]=>match cq ts with
  |some h=>UK h
  |none=>[]
 |_=>[]
noncomputable def HX (xs:List DV):(PyData->Option Int)×List PyData:=(gF xs,gU xs)
theorem Iq (C:Addr) (m c:Nat) (h:List Tl) (j:Int):gF [hs C m c,.d (.list (h.map pr)),.d (.int j)]=fK (mf m c h j):=by
 show (match cq (h.map pr) with|some h=>fK (mf (m:Int).toNat (c:Int).toNat h j)|none=>fun _=>none)=_;rw [show cq (h.map pr)=some h from dF h,Int.toNat_natCast,Int.toNat_natCast]
theorem Ik (x y:DV) (h:List Tl):gU [x,.d (.list (h.map pr)),y]=UK h:=by
 show (match cq (h.map pr) with|some h=>UK h|none=>[])=_;rw [show cq (h.map pr)=some h from dF h]
noncomputable def iV (P:Program) (w:World) (C CT Eh El:Addr) (ml:List DV->M DV) (xs:List DV):M DV:=tR P w C CT Eh El (HX xs).1 (HX xs).2 ml xs
theorem vW (P:Program) (w:World) (C CT Eh El:Addr) (ml:List DV->M DV):iV P w C CT Eh El ml=fun xs=>eT ["house", "hand", "jokers", "playable", "table", "greatest"] (sP P w C CT Eh El (HX xs).1 (HX xs).2 ml) xs:=by
 funext xs;unfold iV tR;rfl
theorem Ef {C Eh El:Addr} (hm:m<=13) (h1:1<=c) (h4:c<=4) (H:Hand m c h j):iV P w C CT Eh El (l8 P w CT 12) [hs C m c,.d (.list (h.map pr)),.d (.int j)]=rt (.nwt [.int (GW m c h j)] ((BL m c h j).map md) []):=by
 unfold iV HX;rw [Iq,Ik];exact Gf hm h1 h4 H
end LW
namespace L3
open PySem PySem.Spec L2
theorem KZ {P:Program} {w:World} {K:Li} {mg:Str->Option Value} {base:Heap} {CX:zE} {k n:Nat} {f:Addr} {fd:FuncData} {ps:List Str} {G:Type} {fm:G->List DV->M DV} (ch:List DV->G) (h:∀g,FnOk P w K mg base CX k f fd ps (Iv n (fm g))):FnOk P w K mg base CX k f fd ps (Iv n fun xs=>fm (ch xs) xs):=
 ⟨fun vs H Q E ⟨h1,O,xs,r,h2,h3,h4,h5⟩=>(h (ch xs)).len vs H Q E ⟨h1,O,xs,r,h2,h3,h4,h5⟩,fun A outer s H args us vs Q E hr he hb hv ⟨h1,O,xs,r,h2,h3,h4,h5⟩=>(h (ch xs)).run A outer s H args us vs Q E hr he hb hv ⟨h1,O,xs,r,h2,h3,h4,h5⟩⟩
theorem HasM.imp {P:Program} {w:World} {K:Li} {mg:Str->Option Value} {base:Heap} {j k:Nat} {C:Addr} {m:Str} {n:Nat} {fm fm':List DV->M DV} (F:HasM P w K mg base j C m n fm) (hj:j<=k) (h:∀xs x,fm' xs=some (.ok x)->fm xs=some (.ok x)):HasM P w K mg base k C m n fm':=by
 obtain ⟨⟨fn,fd,ps,h1,h2,h3⟩,no⟩:=F;exact ⟨⟨fn,fd,ps,(h1.imp fun vs H Q E ⟨a,O,xs,x,b,c,d,e⟩=>⟨a,O,xs,x,b,c,h xs x d,e⟩).mono hj,h2,h3⟩,no⟩
end L3
namespace LW
open PySem PySem.Spec L2 L3
def wt (h:List Tl):Prop:=∀p∈h,1<=p.1
variable {h:List Tl}
theorem wt.sub {h':List Tl} (p:wt h) (s:h'.Sublist h):wt h':=fun q hq=>p q (s.subset hq)
open Classical in
section
variable {P:Program} {w:World} {CT:Addr} {l:By} {f:PyData->Option Int} {U:List PyData}
end
variable {m c:Nat} {j:Int}
theorem Hand.one (H:Hand m c h j):wt h:=fun p hp=>by
 have:=H.tile p hp;unfold bt at this;simp only [Bool.and_eq_true,decide_eq_true_eq] at this;exact this.1.1
section
variable {P:Program} {w:World} {C CT Eh El:Addr}
end
structure Tab (l:By) (AM:List (List Tl)):Prop where
 asc:∀w∈AM,w.Pairwise GH
 all:∀t w,w∈AM->t∈w.take 3->w∈c0 l t
 only:∀t w,w∈c0 l t->w∈AM/\t∈w
 three:∀w∈AM,3<=w.length
structure Stt (r:List Tl) (j:Int):Prop where
 ord:r.Pairwise zO
 pos:∀p∈r,0<=p.1
 j0:0<=j
 j2:j<=2
variable {r w:List Tl}
theorem Stt.lay (s:Stt r j) (h:0<=jl r j w):Stt (aq r w) (jl r j w):=
 ⟨s.ord.sublist (cp _ _),fun p hp=>s.pos p ((cp _ _).subset hp),h,LG (jw _ _ _) s.j2⟩
section
variable {l:By} {AM:List (List Tl)} {goal:Int}
theorem Tab.opt (T:Tab l AM) (s:Stt r j) {Ws:List (List Tl)} (p:Play AM r j Ws):dz l r j<=aZ (aq r Ws.flatten):=wH T.asc T.all r.length r j Ws (K9 _) s.ord s.pos s.j2 p
theorem Tab.snd (T:Tab l AM) (s:Stt r j):∃Ws,Play AM r j Ws/\aZ (aq r Ws.flatten)<=dz l r j:=vz T.only r.length r j (K9 _) s.pos s.j0
theorem Play.cons {r:List Tl} {j:Int} {w:List Tl} {Ws:List (List Tl)} (hw:w∈AM) (p:Play AM (aq r w) (jl r j w) Ws):Play AM r j (w::Ws)/\aq r (w::Ws).flatten=aq (aq r w) Ws.flatten:=by
 refine ⟨⟨fun x hx=>?_,?_⟩,?_⟩
 ·rcases Lj.mp hx with e|e
  ·exact e▸hw
  ·exact p.mem x e
 ·rw [List.flatten_cons,hV]; exact p.jok
 ·rw [List.flatten_cons,eL]
def Av (AM:List (List Tl)) (goal:Int) (xs:List (List Tl)) (r:List Tl) (j:Int):Prop:=∀Ws,Play AM r j Ws->aZ (aq r Ws.flatten)<=goal->∀w∈Ws,w∉xs
theorem Av.take {xs:List (List Tl)} (a:Av AM goal xs r j) (hw:w∈AM):Av AM goal xs (aq r w) (jl r j w):=fun Ws p hs x hx=>by
 obtain ⟨p',e⟩:=Play.cons hw p;exact a _ p' (by rw [e]; exact hs) x (K3 _ hx)
theorem Av.stop (T:Tab l AM) {xs:List (List Tl)} (s:Stt r j) (hg:dz l r j=goal) (a:Av AM goal xs r j) (hw:w∈AM) (no:¬(0<=jl r j w/\dz l (aq r w) (jl r j w)=goal)):Av AM goal (w::xs) r j:=fun Ws p hs x hx hm=>by
 rcases Lj.mp hm with e|e
 ·subst e;obtain ⟨A,B,rfl⟩:=List.append_of_mem hx;have pw:(A++x::B).flatten.Perm (x++(A++B).flatten):=by
   rw [List.flatten_append,List.flatten_cons,List.flatten_append,<-List.append_assoc,<-List.append_assoc];exact (List.perm_append_comm).append_right _
  have hj:=p.jok;rw [xI pw] at hj;have h0:=LG hj (xE _ _ _ _);rw [jU pw,eL] at hs;rw [hV] at hj;have p':Play AM (aq r x) (jl r j x) (A++B):=⟨fun y hy=>p.mem y (by
   rcases Lk.mp hy with z|z
   ·exact K8 _ z
   ·exact K7 _ (K3 _ z)),hj⟩
  have s':=s.lay h0;have h1:=T.opt s' p';obtain ⟨Vs,q,h2⟩:=T.snd s';obtain ⟨q',e⟩:=Play.cons hw q;have h3:=T.opt s q';rw [e] at h3;exact no ⟨h0,0x1⟩
 ·exact a Ws p hs x hx e
end
theorem Gi (hm:m<=13) (h1:1<=c) (h4:c<=4) (h:List Tl) (j:Int):Tab (mf m c h j) ((og m c h j).map tl):=by
 have sub:∀w∈(og m c h j).map tl,w∈HW m c:=fun w hw=>by
  obtain ⟨y,hy,rfl⟩:=Ll.mp hw;exact Ll.mpr ⟨y,(wo hy).1,rfl⟩
 exact ⟨fun w hw=>Cg h1 h4 (sub w hw),fun t w hw ht=>(jo w t _).mpr ⟨hw,ht⟩,fun t w hw=>⟨((jo w t _).mp hw).1,(List.take_sublist 3 w).subset ((jo w t _).mp hw).2⟩,fun w hw=>(nh hm h1 h4 (sub w hw)).1⟩
theorem Hand.stt (H:Hand m c h j):Stt h j:=⟨H.ord,H.pos,H.j0,H.j2⟩
noncomputable def bV (r w:List Tl):Nat:=(w.filter fun t=>decide (t∉r)).length
theorem ui:∀(w r:List Tl),w.Nodup->bV r w+r.length=w.length+(aq r w).length
 |[],r,_=>by show 0+_=0+r.length; rfl
 |t::w,r,h=>by
  obtain ⟨h1,h2⟩:=List.nodup_cons.mp h;have ih:=ui w (r.erase t) h2;have e:aq r (t::w)=aq (r.erase t) w:=rfl;have ew:bV (r.erase t) w=bV r w:=by
   unfold bV;congr 1;refine List.filter_congr fun x hx=>?_;have N8:x≠t:=fun z=>h1 (z▸hx);exact decide_eq_decide.mpr (not_congr (List.mem_erase_of_ne N8))
  rw [e];rw [ew] at ih;by_cases ht:t∈r
  ·have e2:bV r (t::w)=bV r w:=by
    unfold bV;rw [List.filter_cons_of_neg (by simpa using ht)]
   have hl:=List.length_erase_of_mem ht;have hp:0<r.length:=List.length_pos_of_mem ht;rw [e2,List.length_cons];lia
  ·have e2:bV r (t::w)=bV r w+1:=by
    unfold bV;rw [List.filter_cons_of_pos (by simpa using ht),List.length_cons]
   rw [List.erase_of_not_mem ht] at ih ⊢;rw [e2,List.length_cons];lia
theorem xx (h:w.Nodup) (j:Int):j-(bV r w:Int)=jl r j w:=by
 have:=ui w r h;unfold jl;lia
noncomputable def vc (B:List Ml->List Tl->Int->Int×List Ml) (r:List Tl) (j:Int):List Ml->Int×List Ml->Int×List Ml
 |[],f=>f
 |y::ys,f=>vc B r j ys (if 0<=jl r j (tl y)/\f.1<aZ r-aZ (aq r (tl y))+(B (y::ys) (aq r (tl y)) (jl r j (tl y))).1 then (aZ r-aZ (aq r (tl y))+(B (y::ys) (aq r (tl y)) (jl r j (tl y))).1,y::(B (y::ys) (aq r (tl y)) (jl r j (tl y))).2) else f)
noncomputable def LB:Nat->List Ml->List Tl->Int->Int×List Ml
 |0,_,_,_=>(0,[])
 |n+1,ys,r,j=>vc (LB n) r j ys (0,[])
theorem Hg (r:List Tl) (j:Int):jl r j []=j:=by
 unfold jl;show j-(((0:Nat):Int)-((r.length:Int)-(r.length:Int)))=j;lia
theorem zV {h':List Tl} (s:h'.Sublist h):wt h->aZ h'+((h.length:Int)-(h'.length:Int))<=aZ h:=by
 induction s with
 |slnil=>intro _; exact Int.le_refl _
 |@cons l₁ l₂ a s ih=>
  intro p;have:=ih fun q hq=>p q (K3 _ hq);have ha:=p a K5;have e:aZ (a::l₂)=a.1+aZ l₂:=by unfold aZ; rw [List.map_cons,List.sum_cons]
  rw [e,List.length_cons];lia
 |@cons_cons l₁ l₂ a s ih=>
  intro p;have:=ih fun q hq=>p q (K3 _ hq);have e:aZ (a::l₂)=a.1+aZ l₂:=by unfold aZ; rw [List.map_cons,List.sum_cons]
  have e':aZ (a::l₁)=a.1+aZ l₁:=by unfold aZ; rw [List.map_cons,List.sum_cons]
  rw [e,e',List.length_cons,List.length_cons];lia
section
variable {l:By} {AM:List (List Tl)} {goal:Int}
theorem Tab.all_ (T:Tab l AM) (s:Stt r j):dz l r j<=aZ r:=T.opt s (Ws:=[]) ⟨(fun _ h=>nomatch h),by show 0<=jl r j []; rw [Hg]; exact s.j0⟩
theorem Tab.after (T:Tab l AM) (s:Stt r j) (hw:w∈AM) (h0:0<=jl r j w):dz l r j<=dz l (aq r w) (jl r j w):=by
 obtain ⟨Vs,q,h2⟩:=T.snd (s.lay h0);obtain ⟨q',e⟩:=Play.cons hw q;have h3:=T.opt s q';rw [e] at h3;lia
theorem B1 (T:Tab l AM) {B:List Ml->List Tl->Int->Int×List Ml} {r:List Tl} {j:Int} (s:Stt r j) (IH:∀ys r j,(∀y∈ys,tl y∈AM)->Stt r j->(B ys r j).1<=aZ r-dz l r j) :
  ∀(ys:List Ml) (f:Int×List Ml),(∀y∈ys,tl y∈AM)->f.1<=aZ r-dz l r j->(vc B r j ys f).1<=aZ r-dz l r j
 |[],f,_,h=>h
 |y::ys,f,hy,h=>by
  unfold vc;refine B1 T s IH ys _ (fun z hz=>hy z (K3 _ hz)) ?_;split
  ·rename_i hc;have h1:=IH (y::ys) _ _ hy (s.lay hc.1);have h2:=T.after s (hy y K5) hc.1;show aZ r-aZ (aq r (tl y))+_<=_;lia
  ·exact h
theorem Aq (T:Tab l AM):∀(n:Nat) (ys:List Ml) (r:List Tl) (j:Int),(∀y∈ys,tl y∈AM)->Stt r j->(LB n ys r j).1<=aZ r-dz l r j
 |0,ys,r,j,_,s=>by
  have:=T.all_ s;show (0:Int)<=_;lia
 |n+1,ys,r,j,hy,s=>B1 T s (Aq T n) ys (0,[]) hy (by have:=T.all_ s; show (0:Int)<=_; lia)
theorem tW (T:Tab l AM) (n:Nat) {r:List Tl} {j:Int} (s:Stt r j):∀(ys:List Ml) (f:Int×List Ml),(∀y∈ys,tl y∈AM)->f.1=aZ r-dz l r j->vc (LB n) r j ys f=f
 |[],f,_,h=>rfl
 |y::ys,f,hy,h=>by
  unfold vc;rw [if_neg]
  ·exact tW T n s ys f (fun z hz=>hy z (K3 _ hz)) h
  ·rintro ⟨h0,LV⟩;have h1:=Aq T n (y::ys) _ _ hy (s.lay h0);have h2:=T.after s (hy y K5) h0;lia
theorem uG {w:List Tl} (hw:3<=w.length):∀(n:Nat) (r:List Tl) (j:Int),r.length<n->j<=2->fR l goal w (n+1) r j=fR l goal w n r j
 |0,r,j,h,_=>absurd h 0x1
 |n+1,r,j,h,hj=>by
  by_cases hc:0<=jl r j w/\dz l (aq r w) (jl r j w)=goal
  ·have e:∀n,fR l goal w (n+1) r j=((fR l goal w n (aq r w) (jl r j w)).1,(fR l goal w n (aq r w) (jl r j w)).2.1,(fR l goal w n (aq r w) (jl r j w)).2.2+1):=fun n=>if_pos hc;have hl:=fO hc.1 hj hw;rw [e,e,uG hw n (aq r w) (jl r j w) 0x1 (LG (jw _ _ _) hj)]
  ·have e:∀n,fR l goal w (n+1) r j=(r,j,0):=fun n=>if_neg hc;rw [e,e]
theorem Bq {y:Ml} {ys:List Ml} (hc:¬(0<=jl r j (tl y)/\dz l (aq r (tl y)) (jl r j (tl y))=goal)):pV l goal (y::ys) r j=pV l goal ys r j:=by
 have e:fR l goal (tl y) 100 r j=(r,j,0):=if_neg hc;rw [pV,e]; rfl
theorem Ez {y:Ml} {ys:List Ml} (hc:0<=jl r j (tl y)/\dz l (aq r (tl y)) (jl r j (tl y))=goal) (hw:3<=(tl y).length) (hj:j<=2) (hl:r.length<100) :
  pV l goal (y::ys) r j=y::pV l goal (y::ys) (aq r (tl y)) (jl r j (tl y)):=by
 have e:fR l goal (tl y) 100 r j=((fR l goal (tl y) 99 (aq r (tl y)) (jl r j (tl y))).1,(fR l goal (tl y) 99 (aq r (tl y)) (jl r j (tl y))).2.1,(fR l goal (tl y) 99 (aq r (tl y)) (jl r j (tl y))).2.2+1):=if_pos hc;have hs:=fO hc.1 hj hw;rw [pV,e,pV,uG hw 99 (aq r (tl y)) (jl r j (tl y)) 0x1 (LG (jw _ _ _) hj),List.replicate_succ,List.cons_append]
theorem wN (T:Tab l AM) {r:List Tl} {j:Int} (s:Stt r j) (hp:wt r) (hg:aZ r=goal):∀ys:List Ml,(∀y∈ys,tl y∈AM)->pV l goal ys r j=[]
 |[],_=>rfl
 |y::ys,hy=>by
  rw [Bq]
  ·exact wN T s hp hg ys fun z hz=>hy z (K3 _ hz)
  ·rintro ⟨h0,h1⟩;have h2:=T.all_ (s.lay h0);have h3:=fO h0 s.j2 (T.three _ (hy y K5));have h4:=zV (cp (tl y) r) hp;lia
theorem rO (T:Tab l AM) (n:Nat) {r:List Tl} {j:Int} (s:Stt r j) (hg:dz l r j=goal) (hl:r.length<100)
  (IH:∀(ys:List Ml) (xs:List (List Tl)) (w:List Tl),w∈AM->0<=jl r j w->dz l (aq r w) (jl r j w)=goal->(∀y∈ys,tl y∈AM)->(∀w∈AM,w∈xs\/w∈ys.map tl)->Av AM goal xs (aq r w) (jl r j w)->LB n ys (aq r w) (jl r j w)=(aZ (aq r w)-goal,pV l goal ys (aq r w) (jl r j w))) :
  ∀(ys:List Ml) (xs:List (List Tl)) (f:Int×List Ml),(∀y∈ys,tl y∈AM)->(∀w∈AM,w∈xs\/w∈ys.map tl)->Av AM goal xs r j->0<=f.1->f.1<aZ r-goal->vc (LB n) r j ys f=(aZ r-goal,pV l goal ys r j)
 |[],xs,f,_,hc,a,h0,h1=>by
  obtain ⟨Ws,p,hs⟩:=T.snd s;have hn:Ws=[]:=by
   cases Ws with
   |nil=>rfl
   |cons w Ws=>
    refine absurd ?_ (a _ p (by rw [hg] at hs; exact hs) w K5);rcases hc w (p.mem w K5) with z|z
    ·exact z
    ·cases z
  subst hn;have NT:aZ r<=dz l r j:=hs;lia
 |y::ys,xs,f,hy,hc,a,h0,h1=>by
  have hw:=hy y K5;by_cases h:0<=jl r j (tl y)/\dz l (aq r (tl y)) (jl r j (tl y))=goal
  ·have ih:=IH (y::ys) xs (tl y) hw h.1 h.2 hy hc (a.take hw);unfold vc;rw [ih,if_pos ⟨h.1,by show f.1<_-_+(_-_); lia⟩,Ez h (T.three _ hw) s.j2 hl];rw [tW T n s ys _ (fun z hz=>hy z (K3 _ hz)) (by show _-_+(_-_)=_; lia)];exact Prod.ext (by show _-_+(_-_)=_; lia) rfl
  ·rw [Bq h];unfold vc;refine rO T n s hg hl IH ys (tl y::xs) _ (fun z hz=>hy z (K3 _ hz)) (fun w hw'=>?_) (a.stop T s hg hw h) ?_ ?_
   ·rcases hc w hw' with z|z
    ·exact .inl (K3 _ z)
    ·rw [List.map_cons] at z;rcases Lj.mp z with z|z
     ·exact .inl (z▸K5)
     ·exact .inr z
   ·split
    ·rename_i q;show 0<=_-_+_;lia
    ·exact h0
   ·split
    ·rename_i q;have k1:=Aq T n (y::ys) _ _ hy (s.lay q.1);have k2:=T.after s hw q.1;have k3:dz l (aq r (tl y)) (jl r j (tl y))≠goal:=fun z=>h ⟨q.1,z⟩;show _-_+_<_;lia
    ·exact h1
theorem ug (T:Tab l AM):∀(n:Nat) (ys:List Ml) (xs:List (List Tl)) (r:List Tl) (j:Int),(∀y∈ys,tl y∈AM)->(∀w∈AM,w∈xs\/w∈ys.map tl)->r.length<=n->r.length<100->Stt r j->wt r->Av AM goal xs r j->dz l r j=goal ->
  LB n ys r j=(aZ r-goal,pV l goal ys r j)
 |0,ys,xs,r,j,hy,hc,hn,hl,s,hp,a,hg=>by
  have e:r=[]:=LH 0x1;subst e;rw [Ec] at hg;have e0:aZ []=goal:=hg;rw [wN T s hp e0 ys hy,<-e0];rfl
 |n+1,ys,xs,r,j,hy,hc,hn,hl,s,hp,a,hg=>by
  have h0:=T.all_ s;unfold LB;by_cases hM:aZ r=goal
  ·rw [tW T n s ys (0,[]) hy (by show (0:Int)=_; lia),wN T s hp hM ys hy,hM,Int.sub_self]
  ·refine rO T n s hg hl (fun ys xs w hw w0 w1 hy hc a=>?_) ys xs (0,[]) hy hc a (Int.le_refl _) (by show (0:Int)<_; lia);have hs:=fO w0 s.j2 (T.three w hw);exact ug T n ys xs _ _ hy hc 0x1 0x1 (s.lay w0) (hp.sub (cp _ _)) a w1
end
end LW
namespace L2
open PySem PySem.Spec PyProof.Rows
theorem Inv.turned2 {X:Cx} {pins:List (Addr×Obj)} {σ:St} {H:Hp} {s:Shared} {h':Heap} {t':Nat} {fp:List Addr} (I:Inv X pins σ H s) (k:∀b o,b∉fp->s.heap.get? b=some o->h'.get? b=some o) (hf:∀b∈fp,lM X pins H b):Inv X pins σ H { s with heap:=h',toks:=t' }:=by
 have nit:∀b u,H b=some u->b∉fp:=fun b u e z=>by rw [(hf b z).1] at e; cases e
 refine I.step (g':=s.gens) (d':=s.drawn) (ch:=fp) (fun b hb=>?_) (fun b o _ _ hc e _=>k b o hc e) (fun b o _ _ hc e _=>⟨o.slots,k b o hc e⟩) (fun _ _ _ _ n=>n)
  (fun b o hc e=>⟨o,k b o hc e⟩) (fun _ _ e=>e) (fun _ _ _ e=>e) (fun b ps e=>⟨#[],by rw [e]; simp⟩) (fun m hm=>?_) (fun b u e=>?_) I.bare
 ·obtain ⟨_,f1,_,f3,f4,f5⟩:=hf b hb;exact ⟨f3,f1,f4,f5⟩
 ·obtain ⟨o,es,ep,ho,r⟩:=hm;exact ⟨o,es,ep,k _ o (fun z=>(hf _ z).2.1 rfl) ho,r⟩
 ·refine (I.hok b u e).stay (fun c v hc q=>k c v ?_ q) (fun _ q=>q) fun _ _ q=>q;rcases hc with z|z
  ·rw [z]; exact nit b u e
  ·exact nit c _ z
noncomputable def Ka (K:Li) (a:Addr):It:=
 ⟨fun i H=>∃xs x,eN K H a xs/\xs[i]?=some x,fun i H x H'=>∃t y,H t=none/\x=.ref t/\H'=upd H t (.tup [.int i,y])/\∀xs,eN K H a xs->xs[i]?=some y,fun i H=>∃xs,eN K H a xs/\xs.length<=i⟩
theorem zL {P:Program} {w:World} {K:Li} {elts:List Expr} {k:Nat} {pos:Pos} (a e it:Addr) (hei:e≠it):Turn P w K (.Tuple elts k pos) (Ka K a) [e,it] e (fun i h=>(∃old,IsEnum h e it i old)/\h.IsListIter it a i) where
 mem:=K5
 obj:=fun i h st b hb=>by
  obtain ⟨⟨old,st⟩,o,e',c,d⟩:=st;rcases Lj.mp hb with z|hb
  ·subst z;exact ⟨_,st,fun v z=>by have z':Data.fields _=Data.cell v:=z; cases z'⟩
  ·have z:b=it:=by simpa using hb
   subst z;exact ⟨o,e',fun v z=>by rw [d] at z; cases z⟩
 keep:=fun i h h' st k=>by
  obtain ⟨⟨old,he⟩,hi⟩:=st;exact ⟨⟨old,k e K5 _ he⟩,hi.at fun o q=>k it (K3 _ K5) o q⟩
 item:=by
  intro X hP hw hK hc i pins s σ H E I hf st hg;subst hP hw hK;obtain ⟨⟨old,he⟩,hit⟩:=st;obtain ⟨xs,x,hq,hx⟩:=hg;obtain ⟨D',rv,p,hz⟩:=I.list hq;obtain ⟨u,hu,ru⟩:=rv.get hx;refine wpAny_pyNext_enum_item he hit p.isList (x:=u) (by simpa using hu) hei fun h' ho hit' hT hsz hk=>?_;refine ⟨_,rfl,wpAny_letOwnedTupleGo_enum ho fun h2 he2 M6=>?_⟩;have M6:Heap.SameBut e h' h2:=M6;have he2:IsEnum h2 e it ((i:Int)+1) u:=he2;have LV:e<s.heap.objs.size:=Lc he;have hilt:it<s.heap.objs.size:=by obtain ⟨_,q,_⟩:=hit; exact Lc q
  have hTe:s.heap.objs.size≠e:=Nat.ne_of_gt LV;have hTi:s.heap.objs.size≠it:=Nat.ne_of_gt hilt;have I1:Inv X pins σ (upd H s.heap.objs.size (.tup [.int i,x])) { s with heap:=s.heap.push { cls:=.type "tuple",data:=.seq #[.int i s.toks,u] },toks:=s.toks }:=
   I.laid (t':=s.toks) (fun b o q=>K6 _ q) (K9 _) ⟨L3.line_big (by show 2<=1000000; decide),[.int i s.toks,u],.cons ⟨_,rfl⟩ (.cons ru .nil),⟨_,LC _ rfl,rfl,_,rfl⟩⟩
  have hf':∀b∈[e,it],lM X pins (upd H s.heap.objs.size (.tup [.int i,x])) b:=fun b hb=>by
   obtain ⟨f0,f1⟩:=hf b hb;refine ⟨?_,f1⟩;rw [aD]
   ·exact f0
   ·rintro rfl;rcases Lj.mp hb with z|hb
    ·exact hTe z
    ·exact hTi (by simpa using hb)
  have I2:=I1.turned2 (h':=h2) (t':=s.toks+1) (fp:=[e,it]) (fun b o hb q=>by
   have N0:b≠e:=fun z=>hb (by simp [z]);have hbi:b≠it:=fun z=>hb (by simp [z]);rw [M6.2 b N0];by_cases hbT:b=s.heap.objs.size
   ·subst hbT;have q':(s.heap.push { cls:=.type "tuple",data:=.seq #[.int i s.toks,u] }).get? s.heap.objs.size=some o:=q;rw [LC _ rfl] at q';cases q';exact hT
   ·refine hk b o N0 hbi ?_;rw [<-q];exact (Heap.get?_push_ne _ _ _ hbT).symm) hf'
  refine ⟨.ref s.heap.objs.size,_,I2,rfl,⟨_,x,I.hok.fresh (K9 _),rfl,rfl,fun ys hy=>by rw [I.list_inj hy hq]; exact hx⟩,⟨⟨u,?_⟩,?_⟩,fun b hb=>(hf' b hb).1⟩
  ·have z:((i+1:Nat):Int)=(i:Int)+1:=by push_cast; rfl
   rw [z]; exact he2
  ·exact hit'.at fun o q=>(M6.2 it (Ne.symm hei)).trans q
 done:=by
  intro X hP hw hK hc i pins s σ H E I hf st hg;subst hP hw hK;obtain ⟨⟨old,he⟩,hit⟩:=st;obtain ⟨xs,hq,hx⟩:=hg;obtain ⟨D',rv,p,hz⟩:=I.list hq;have hl:=rv.length;exact wpAny_pyNext_enum_end (I.ok.hd hc) he hit p.isList (by simp; lia) fun h' eb=>⟨rfl,I.turned2 (t':=s.toks) (fp:=[e,it]) (fun b o hb q=>eb b o (fun z=>hb (by simp [z])) q) hf⟩
 self:=fun _ _ _ _ _ st h=>by
  obtain ⟨⟨old,he⟩,_⟩:=st;exact wpAny_pyIter_enum he h
theorem yX:bootBuiltins "enumerate" = some (.type "enumerate"):=by decide +kernel
section
variable {X:Cx} {elts:List Expr} {k:Nat} {tp:Pos}
def Jv (K:Li) (ta:TA):TI:=fun σ H R=>ta σ H fun vs H1=>∃a,vs=[.ref a]/\(∃xs,eN K H1 a xs)/\R (Ka K a) H1
theorem ET {a:Expr} {ta:TA} {p pos:Pos} (hg:Gl X "enumerate") (hm:X.mg "enumerate" = none) (ha:PA X [a] ta) (hs:starEach [a] X.env=[(false,eval a X.env)]:=by rfl):PI X (.Tuple elts k tp) (.Call (.Name "enumerate" p) [a] [] pos) (Jv X.K ta):=by
 intro pins s σ H R I h;refine Call_ (kM I hg hm yX (PyProof.Rows.callWith_type1 (bX (ha pos pins s σ H _ I h) fun us s1 ⟨vs,H1,I1,r1,q1⟩=>?_) hs rfl));obtain ⟨b,e,⟨xs,hq⟩,q⟩:=q1;subst e;cases r1 with
 |cons r rr=>
  cases rr;cases r;obtain ⟨D',rv,pl,hz⟩:=I1.list hq;refine call_enumerate_list pl.isList fun h' he hit hsz hk=>wpAny_pyIter_enum he ?_;have I2:Inv X pins σ H1 { s1 with heap:=h' }:=I1.kept (t':=s1.toks) hk;refine ⟨s1.heap.objs.size+1,[s1.heap.objs.size+1,s1.heap.objs.size],_,_,H1,rfl,I2,zL b _ _ (Nat.ne_of_gt (Nat.lt_succ_self _)),⟨⟨.none,he⟩,hit⟩,fun c hc=>?_,q⟩;have hle:s1.heap.objs.size<=c:=by
   rcases Lj.mp hc with z|hc
   ·rw [z]; exact Nat.le_succ _
   ·have z:c=s1.heap.objs.size:=by simpa using hc
    rw [z]; exact K9 _
  exact I1.fpOk hle (I1.hok.fresh hle)
end
end L2
namespace L3
open PySem PySem.Spec L2
open PyProof.Rows hiding St
def FR (O P:List Addr) (H:Hp) (J:It) (xs:List D):Prop:=∀(i:Nat) (P':List Addr) (H':Hp),Kp P H P' H'->(∀a,a∈P'++O->∃o,H' a=some o) ->
 (∀d,xs[i]?=some d->J.go i H'/\∀x H2,J.yld i H' x H2->aE H' H2/\Rp (P'++O) H2 d x)/\(xs.length<=i->J.stop i H')
def KJ (E:XK) (O P:List Addr) (H:Hp) (R:It->Hp->Prop):Except Value (List D)->Prop
 |.ok xs=>∀J H',aE H H'->FR O P H' J xs->R J H'
 |.error c=>∀dx H',aE H H'->E c dx H'
def tN (E:XK) (f:DS->M (List D)):TI:=fun σ H R=>∃O P δ r,RS O P H σ δ/\f δ=some r/\KJ E O P H R r
noncomputable def nT (n:Nat):List D->List D
 |[]=>[]
 |x::r=>.tuple [.int n,x]::nT (n+1) r
theorem uw:∀(n:Nat) (xs:List D),(nT n xs).length=xs.length
 |_,[]=>rfl
 |n,x::r=>by rw [nT,List.length_cons,List.length_cons,uw]
theorem vn:∀(n:Nat) {xs:List D} {i:Nat} {d:D},(nT n xs)[i]?=some d->∃x,xs[i]?=some x/\d=.tuple [.int ((n+i:Nat):Int),x]
 |n,[],i,d,h=>by simp [nT] at h
 |n,x::r,0,d,h=>by
  rw [nT,List.getElem?_cons_zero] at h;cases h;exact ⟨x,rfl,rfl⟩
 |n,x::r,i+1,d,h=>by
  rw [nT,List.getElem?_cons_succ] at h;obtain ⟨y,e1,e2⟩:=vn (n+1) h;exact ⟨y,by rw [List.getElem?_cons_succ]; exact e1,by rw [e2,show n+1+i=n+(i+1) by lia]⟩
noncomputable def KA (fr:DS->M (List DV)) (δ:DS):M (List D):=bd (fr δ) fun xs=>match xs with
 |[x]=>match uh x with
  |some (.list ys)=>rt (nT 0 ys)
  |_=>none
 |_=>none
theorem E6 {O P:List Addr} {H:Hp} {K:Li} {xs:List D} {v:V} (r:Rp (P++O) H (.list xs) v):∃a,v=.ref a/\(∃vs,eN K H a vs)/\FR O P H (Ka K a) (nT 0 xs):=by
 cases r with
 |@lst a _ vs hz ha l=>
  refine ⟨a,rfl,⟨vs,eN.of ha⟩,fun i P' H' k dom=>?_⟩;have Nm:=k.keep a _ (fun h=>hz (K8 _ h)) ha;have l':=l.kp (Kp.app (O:=O) k);refine ⟨fun d hd=>?_,fun h=>⟨vs,eN.of Nm,by rw [uw] at h; rw [<-l.length]; exact h⟩⟩;obtain ⟨y,hy,rfl⟩:=vn 0 hd;obtain ⟨x,hx,rx⟩:=l'.get hy;refine ⟨⟨vs,x,eN.of Nm,hx⟩,fun z H2 ⟨t,u,hn,e1,e2,e3⟩=>?_⟩;have:=e3 vs (eN.of Nm);rw [hx] at this;cases this;subst e1 e2;refine ⟨bb hn,.tup (fun hm=>?_) aM (.cons (by rw [Nat.zero_add]; exact .int _) (.cons (rx.kp (.same (bb hn))) .nil))⟩;obtain ⟨o,e⟩:=dom t hm;rw [hn] at e; cases e
section
variable {X:Cx} {E:XK} {elts:List Expr} {k:Nat} {tp:Pos}
theorem Ji {a:Expr} {fr:DS->M (List DV)} {p pos:Pos} (hm:X.mg "enumerate" = none) (ha:t6 X E [a] fr) (hg:Gl X "enumerate" :=by rfl) (hs:starEach [a] X.env=[(false,eval a X.env)]:=by rfl):PI X (.Tuple elts k tp) (.Call (.Name "enumerate" p) [a] [] pos) (tN E (KA fr)):=PI.mono (ET hg hm ha hs) fun σ H R q=>by
 obtain ⟨O,P,δ,r,rs,e,q⟩:=q;rcases ax e with ⟨xs,e1,e2⟩|⟨cx,e1,e2⟩
 ·refine ⟨O,P,δ,.ok xs,rs,e1,fun vs H1 s1 rx=>?_⟩;split at e2
  ·split at e2
   ·rename_i ys h;cases e2;cases rx with
    |cons r1 rr=>
     cases rr;obtain ⟨a,rfl,h1,h2⟩:=E6 (K:=X.K) (r1.data rs.dom h);exact ⟨a,rfl,h1,q _ H1 s1 h2⟩
   ·cases e2
  ·cases e2
 ·subst e2;exact ⟨O,P,δ,.error cx,rs,e1,q⟩
theorem DY {iter tg:Expr} {body:List Stmt} {fi:DS->M (List D)} {g:TG} {sf:D->DS->Option DS} {B:DS->M Out} {pos:Pos} (hp:PassesOwn (model X.prog X.w) X.A X.env X.xe) (hc:X.calm=true) (hi:PI X tg iter (tN E fi)) (hg:PG X tg g) (ht:EE g sf) (hb:yy X E body B)
  (hs:∀x,foldedSetIterable iter X.env x=pure x:=by intro _; rfl):vw X E (.For tg iter body [] pos) (cG fi sf B):=PS.mono (tO hp hc hi hg hb hs) fun T σ H q=>by
 obtain ⟨O,P,δ,r,rs,e,q⟩:=q;rcases ax e with ⟨xs,e1,e2⟩|⟨cx,e1,e2⟩
 ·refine ⟨O,P,δ,.ok xs,rs,e1,fun J H1 s1 it=>?_⟩;refine ⟨fun i m σ' H'=>m=xs.length-i/\i<=xs.length/\∃P' δ',Kp P H1 P' H'/\RS O P' H' σ' δ'/\dw sf B (xs.drop i) δ'=some r,⟨xs.length,0x4,Lv _,P,δ,.refl,rs.same s1,e2⟩,?_⟩;rintro i m σ' H' ⟨rfl,hi,P',δ',k,L1,el⟩;have q':=q.on ((Kp.same s1).trans k);by_cases LV:i<xs.length
  ·obtain ⟨go,yl⟩:=(it i P' H' k L1.dom).1 xs[i] (by simp [LV]);refine .inr ⟨go,fun σ2 H2=>∃P2 δ2,Kp P H1 P2 H2/\RS O P2 H2 σ2 δ2/\dw sf B (xs.drop (i+1)) δ2=some r,fun σ2 H2 ⟨P2,δ2,h1,h2,h3⟩=>⟨xs.length-(i+1),0x1,rfl,LV,P2,δ2,h1,h2,h3⟩,fun x H2 hy=>?_⟩;obtain ⟨s2,rx⟩:=yl x H2 hy;have k:=k.trans (Kp.same s2);have q':=q.on ((Kp.same s1).trans k);have L1:=L1.same s2;rw [List.drop_eq_getElem_cons LV] at el;obtain ⟨δ1,e3,e4⟩:=bu el;refine ht O P' H2 σ' δ' δ1 _ x _ L1 rx e3 fun σ1 LK=>?_;rcases ax e4 with ⟨o,e5,e6⟩|⟨cx,e5,e6⟩
   ·refine ⟨O,P',δ1,.ok o,LK,e5,?_⟩;cases o with
    |nx δ2=>exact fun σ2 H3 P2 k2 NV=>⟨P2,δ2,k.trans k2,NV,e6⟩
    |ct δ2=>exact fun σ2 H3 P2 k2 NV=>⟨P2,δ2,k.trans k2,NV,e6⟩
    |bk δ2=>cases e6; exact q'
    |rt y=>cases e6; exact q'
   ·subst e6;exact ⟨O,P',δ1,.error cx,LK,e5,q'⟩
  ·have MK:i=xs.length:=by lia
   subst MK;rw [List.drop_length] at el;cases el;exact .inl ⟨(it _ P' H' k L1.dom).2 (K9 _),q' σ' H' P' .refl L1⟩
 ·subst e2;exact ⟨O,P,δ,.error cx,rs,e1,fun dx H' s=>q dx H' P (.same s)⟩
end
theorem fU {X:Cx} {pos:Pos} {i:Nat} {x:Str} (hN:X.N.Nodup) (hi:X.N[i]?=some x:=by rfl) (hx:HU X.env.scope x:=by first|exact Or.inl rfl|exact Or.inr rfl) (hf:X.fn x=true\/X.env.scope.names.lookup x=some .local:=by first|exact .inl rfl|exact .inr rfl|assumption):PG X (.Name x pos) (nH i):=Es hN hi hx hf
end L3
namespace LW
open PySem PySem.Spec L2 L3
noncomputable def ir (K:Li):DS->M Out:=(bE (aK 2 (aR (aw 2 (aG K)) (aa (af 0) (aa (eC (.int 1)) ai)))) (bx (e2 bz (cw (aa (eC (.int 0)) (aa (eC (.int 0)) (aa (eC (.int 1)) (aa (e2 bz (cw (aa (eC (.int 1)) (aa (eC (.int 2)) ai))) (aR AO (aa (e2 hW (aR c6 (aa (af 1) ai)) (eC (.int 6))) ai))) ai))))) (e2 kl (af 2) (eC (.int 4))))))
noncomputable def cf (K:Li):List DV->M DV:=eT ["script", "hand", "cell"] (ir K)
noncomputable def jk:DS->M Out:=(bx (aR c6 (aa (aU 1 [0] (hX (af 1)) (ar 0) (fun δ=>bd (e2 (vZ true) (af 0) (af 1) δ) bR) (af 0)) ai)))
noncomputable def bL:List DV->M DV:=eT ["rest", "tiles"] (jk)
noncomputable def jL:DS->M Out:=(bE (aK 2 (aR uy (aa (af 0) ai))) (bE (cG (hX (af 1)) (ar 3) (gk (fun δ=>bd (e2 (vZ false) (af 3) (af 2) δ) bR) (qv 2 (af 3)) b9)) (bx (af 2))))
noncomputable def cg:List DV->M DV:=eT ["rest", "tiles", "found", "tile"] (jL)
noncomputable def nJ (m__law_best:List DV->M DV):DS->M Out:=(bE (aK 3 (bj (aa (eC (.int 0)) (aa (cw ai) ai)))) (bE (cG (KA (aa (af 0) ai)) (kP 2 (cJ (ar 4) (cJ (ar 5) lS))) (bE (aK 6 (aR (aw 1 (a8)) (aa (af 5) ai))) (fun δ=>(bE (aK 7 (aR (aw 2 (bL)) (aa (af 1) (aa (af 6) ai)))) (gk (fun δ=>bd (e2 kg (af 7) (af 2) δ) bR) (fun δ=>(bE (aK 8 (aR (aw 2 (cg)) (aa (af 1) (aa (af 6) ai)))) (fun δ=>(bE (aK 9 (e2 gSub (aR qI (aa (aU 1 [] (hX (af 1)) (ar 0) bN (e2 bz (af 0) (eC (.int 0)))) ai)) (aR qI (aa (aU 1 [] (hX (af 8)) (ar 0) bN (e2 bz (af 0) (eC (.int 0)))) ai)))) (fun δ=>(bE (aK 10 (aR (aw 3 m__law_best) (aa (ur (af 0) (af 4)) (aa (af 8) (aa (e2 gSub (af 2) (af 7)) ai))))) (gk (fun δ=>bd (e2 wz (e2 aB (af 9) (e2 bz (af 10) (eC (.int 0)))) (e2 bz (af 3) (eC (.int 0))) δ) bR) (aK 3 (bj (aa (e2 aB (af 9) (e2 bz (af 10) (eC (.int 0)))) (aa (e2 aB (cw (aa (af 5) ai)) (e2 bz (af 10) (eC (.int 1)))) ai)))) b9)) (frz 8 δ))) (frz 8 δ))) (frz 6 δ)) b9)) (frz 6 δ)))) (bx (af 3))))
noncomputable def fN (m__law_best:List DV->M DV):List DV->M DV:=eT ["some", "rest", "jokers", "found", "k", "meld", "tiles", "wanting", "behind", "gain", "more"] (nJ m__law_best)
noncomputable def jS (m__law_best:List DV->M DV):DS->M Out:=(bE (aK 4 (aU 1 [3,2] (hX (aR (aw 2 (eX)) (aa (af 0) (aa (af 1) ai)))) (ar 0) (fun δ=>bd (e2 kg (aR (aw 2 (bL)) (aa (af 2) (aa (aR (aw 1 (a8)) (aa (af 0) ai)) ai))) (af 1) δ) bR) (af 0))) (fun δ=>(bx (aR (aw 3 m__law_best) (aa (af 4) (aa (af 2) (aa (af 3) ai))))) (frz 4 δ)))
noncomputable def dB (m__law_best:List DV->M DV):List DV->M DV:=eT ["most", "colours", "hand", "jokers", "some"] (jS m__law_best)
theorem Dn (r:List Tl) (p:Tl):vZ true (.d (pr p)) (.d (.list (r.map pr)))=rt (.d (.bool (decide (p∉r)))):=by
 unfold vZ;show (if (pr p).depth<=60 then _ else none)=_;rw [if_pos (show (pr p).depth<=60 from (by decide:1<=60))];show rt (DV.d (.bool (!((r.map pr).any fun z=>PyData.eqv z (pr p)))))=_;rw [BB,decide_not]
theorem E3 (xs:List D):c6 [.new xs]=rt (.d (.int (xs.length:Int))):=by
 unfold c6;rfl
theorem mU (r w:List Tl) (hl:w.length<=1000):bL [.d (.list (r.map pr)),.d (.list (w.map pr))]=rt (.d (.int (bV r w:Int))):=by
 unfold bL jk;refine d9 (x:=.d (.int (bV r w:Int))) (bD ?_);refine (cC (bp (br (xs:=w.map pr) (fC rfl) (by rw [List.length_map]; lia) (eF (b:=fun t=>decide (t∉r)) (g:=pr) fun p _=>⟨?_,rfl⟩)))).trans ?_
 ·exact bf ((av (x:=.d (pr p)) (y:=.d (.list (r.map pr))) rfl rfl).trans (Dn r p))
 ·rw [E3,List.length_map]; rfl
noncomputable def HV (r w g:List Tl) (x3:Option DV):DS:=[some (.d (.list (r.map pr))),some (.d (.list (w.map pr))),some (.own (g.map pr)),x3]
theorem yL (r w:List Tl) (hl:w.length<=1000):cg [.d (.list (r.map pr)),.d (.list (w.map pr))]=rt (.new ((aq r w).map pr)):=by
 obtain ⟨δ',e,x3,h⟩:=iR (f:=pr) (i:=3) (N:=1000) (B:=(gk (fun δ=>bd (e2 (vZ false) (af 3) (af 2) δ) bR) (qv 2 (af 3)) b9)) (all:=w) (fun pre δ=>∃x3,δ=HV r w (aq r pre) x3) (fun pre p δ hp MZ hI=>by
  obtain ⟨x3,rfl⟩:=hI;have hla:aq r (pre++[p])=(aq r pre).erase p:=by unfold aq; rw [List.foldl_append]; rfl
  refine ⟨HV r w (aq r (pre++[p])) (some (.d (pr p))),?_,_,rfl⟩;have ht:(fun δ=>bd (e2 (vZ false) (af 3) (af 2) δ) bR) (HV r w (aq r pre) (some (.d (pr p))))=rt (decide (p∈aq r pre)):=bf ((av (x:=.d (pr p)) (y:=.own ((aq r pre).map pr)) rfl rfl).trans (xV _ _));by_cases MK:p∈aq r pre
  ·rw [Lz MK] at ht;refine JD ht ?_;obtain ⟨i,e1,e2⟩:=oR MK;show qv 2 (af 3) (HV r w (aq r pre) (some (.d (pr p))))=_;unfold qv;show bd (rt (DV.d (pr p))) _=_;rw [ay];show bd (rt (pr p)) _=_;rw [ay,if_pos (show (pr p).depth<=60 from (by decide:1<=60)),sW,e1];show rt (Out.nx _)=_;rw [iU,e2,<-hla];rfl
  ·rw [Ly MK] at ht;refine FV ht ?_;rw [hla,List.erase_of_not_mem MK];rfl) w [] _ (fun a ha=>ha) (by simpa using hl) ⟨none,rfl⟩
 rw [List.nil_append] at h;subst h;unfold cg;refine d9 (x:=.own ((aq r w).map pr)) ?_;unfold jL;refine gM (δ':=HV r w r none) (eE (x:=.new (r.map pr)) ((cC (bp (x:=.d (.list (r.map pr))) rfl)).trans rfl) rfl rfl) ?_;refine gM (δ':=HV r w (aq r w) x3) (mB (xs:=w.map pr) (fC rfl) e) ?_;exact bD rfl
theorem Af {i:Nat} {δ:DS} {ps:List Tl} (h:af i δ=rt (.d (.list (ps.map pr)))) (hl:ps.length<=1000):aR qI (aa (aU 1 [] (hX (af i)) (ar 0) bN (e2 bz (af 0) (eC (.int 0)))) ai) δ=rt (.d (.int (aZ ps))):=by
 refine (cC (bp (br (xs:=ps.map pr) (fC h) (by rw [List.length_map]; lia) (du (g:=fun p=>PyData.int p.1) fun p _=>?_)))).trans ?_
 ·exact (av (x:=.d (pr p)) (y:=.d (.int 0)) rfl rfl).trans (aH rfl)
 ·unfold qI;simp only [ma,aP,ay];rw [show (ps.map fun p=>PyData.int p.1)=(ps.map (·.1)).map PyData.int by rw [List.map_map]; rfl,mw];rfl
structure Mg (y:Ml):Prop where
 law:a8 [.d (md y)]=rt (.new ((tl y).map pr))
 three:3<=(tl y).length
 len:(tl y).length<=1000
 nd:(tl y).Nodup
noncomputable def gK (f:Int×List Ml):D:=.tuple [.int f.1,.list (f.2.map md)]
noncomputable def bδ (ms:List D) (r:List Tl) (j:Int) (f:Int×List Ml) (x4 x5 x6 x7 x8 x9 x10:Option DV):DS:=[some (.d (.list ms)),some (.d (.list (r.map pr))),some (.d (.int j)),some (.d (gK f)),x4,x5,x6,x7,x8,x9,x10]
noncomputable def bB (mb:List DV->M DV):DS->M Out:=(bE (aK 6 (aR (aw 1 (a8)) (aa (af 5) ai))) (fun δ=>(bE (aK 7 (aR (aw 2 (bL)) (aa (af 1) (aa (af 6) ai)))) (gk (fun δ=>bd (e2 kg (af 7) (af 2) δ) bR) (fun δ=>(bE (aK 8 (aR (aw 2 (cg)) (aa (af 1) (aa (af 6) ai)))) (fun δ=>(bE (aK 9 (e2 gSub (aR qI (aa (aU 1 [] (hX (af 1)) (ar 0) bN (e2 bz (af 0) (eC (.int 0)))) ai)) (aR qI (aa (aU 1 [] (hX (af 8)) (ar 0) bN (e2 bz (af 0) (eC (.int 0)))) ai)))) (fun δ=>(bE (aK 10 (aR (aw 3 mb) (aa (ur (af 0) (af 4)) (aa (af 8) (aa (e2 gSub (af 2) (af 7)) ai))))) (gk (fun δ=>bd (e2 wz (e2 aB (af 9) (e2 bz (af 10) (eC (.int 0)))) (e2 bz (af 3) (eC (.int 0))) δ) bR) (aK 3 (bj (aa (e2 aB (af 9) (e2 bz (af 10) (eC (.int 0)))) (aa (e2 aB (cw (aa (af 5) ai)) (e2 bz (af 10) (eC (.int 1)))) ai)))) b9)) (frz 8 δ))) (frz 8 δ))) (frz 6 δ)) b9)) (frz 6 δ)))
theorem BU {ms:List D} {k:Nat} (hk:k<=ms.length):qr ms (some (k:Int)) none=ms.drop k:=by
 unfold qr;rw [HT.sIx_nat,HT.sIx_none,Nat.min_eq_left hk,List.take_of_length_le];rw [List.length_drop]; exact K9 _
section
variable {mb:List DV->M DV} {B:List Ml->List Tl->Int->Int×List Ml} {r:List Tl} {j:Int}
theorem E4 {ms:List D} {y:Ml} {zs:List Ml} {k:Nat} {f:Int×List Ml} {x6 x7 x8 x9 x10:Option DV} (g:Mg y) (hr:r.length<=1000) (hk:k<=ms.length) (hd:ms.drop k=(y::zs).map md)
  (hb:0<=jl r j (tl y)->mb [.d (.list ((y::zs).map md)),.d (.list ((aq r (tl y)).map pr)),.d (.int (jl r j (tl y)))]=rt (.d (gK (B (y::zs) (aq r (tl y)) (jl r j (tl y)))))/\(B (y::zs) (aq r (tl y)) (jl r j (tl y))).2.length<=1000) :
  ∃q6 q7 q8 q9 NA,bB mb (bδ ms r j f (some (.d (.int (k:Int)))) (some (.d (md y))) x6 x7 x8 x9 x10)=rt (.nx (bδ ms r j (if 0<=jl r j (tl y)/\f.1<aZ r-aZ (aq r (tl y))+(B (y::zs) (aq r (tl y)) (jl r j (tl y))).1 then (aZ r-aZ (aq r (tl y))+(B (y::zs) (aq r (tl y)) (jl r j (tl y))).1,y::(B (y::zs) (aq r (tl y)) (jl r j (tl y))).2) else f) (some (.d (.int (k:Int)))) (some (.d (md y))) q6 q7 q8 q9 NA)):=by
 have hj:=xx (r:=r) g.nd j;have hlr:(aq r (tl y)).length<=1000:=Lw (jR (tl y) r).1 hr;unfold bB;by_cases h0:0<=jl r j (tl y)
 ·obtain ⟨hb1,hb2⟩:=hb h0;generalize hB:B (y::zs) (aq r (tl y)) (jl r j (tl y))=b at hb1 hb2 ⊢;refine ⟨some (.d (.list ((tl y).map pr))),some (.d (.int (bV r (tl y):Int))),some (.d (.list ((aq r (tl y)).map pr))),some (.d (.int (aZ r-aZ (aq r (tl y))))),some (.d (gK b)),?_⟩;refine gM (δ':=bδ ms r j f (some (.d (.int (k:Int)))) (some (.d (md y))) (some (.own ((tl y).map pr))) x7 x8 x9 x10) (eE (x:=.new ((tl y).map pr)) (aV (n:=1) (bp (x:=.d (md y)) rfl) rfl rfl g.law) rfl rfl) ?_;show bE _ _ (bδ ms r j f (some (.d (.int (k:Int)))) (some (.d (md y))) (some (.d (.list ((tl y).map pr)))) x7 x8 x9 x10)=_;refine gM (δ':=bδ ms r j f (some (.d (.int (k:Int)))) (some (.d (md y))) (some (.d (.list ((tl y).map pr)))) (some (.d (.int (bV r (tl y):Int)))) x8 x9 x10) (eE (x:=.d (.int (bV r (tl y):Int))) (aV (n:=2) (bQ (x:=.d (.list (r.map pr))) (y:=.d (.list ((tl y).map pr))) rfl rfl) rfl rfl (mU r (tl y) g.len)) rfl rfl) ?_;refine JD (bf ((av (x:=.d (.int (bV r (tl y):Int))) (y:=.d (.int j)) rfl rfl).trans ((g7 _ _).trans (by rw [Lz (show (bV r (tl y):Int)<=j by lia)])))) ?_;show bE _ _ (bδ ms r j f (some (.d (.int (k:Int)))) (some (.d (md y))) (some (.d (.list ((tl y).map pr)))) (some (.d (.int (bV r (tl y):Int)))) x8 x9 x10)=_;refine gM (δ':=bδ ms r j f (some (.d (.int (k:Int)))) (some (.d (md y))) (some (.d (.list ((tl y).map pr)))) (some (.d (.int (bV r (tl y):Int)))) (some (.own ((aq r (tl y)).map pr))) x9 x10) (eE (x:=.new ((aq r (tl y)).map pr)) (aV (n:=2) (bQ (x:=.d (.list (r.map pr))) (y:=.d (.list ((tl y).map pr))) rfl rfl) rfl rfl (yL r (tl y) g.len)) rfl rfl) ?_;show bE _ _ (bδ ms r j f (some (.d (.int (k:Int)))) (some (.d (md y))) (some (.d (.list ((tl y).map pr)))) (some (.d (.int (bV r (tl y):Int)))) (some (.d (.list ((aq r (tl y)).map pr)))) x9 x10)=_;refine gM (δ':=bδ ms r j f (some (.d (.int (k:Int)))) (some (.d (md y))) (some (.d (.list ((tl y).map pr)))) (some (.d (.int (bV r (tl y):Int)))) (some (.d (.list ((aq r (tl y)).map pr)))) (some (.d (.int (aZ r-aZ (aq r (tl y)))))) x10) (eE (x:=.d (.int (aZ r-aZ (aq r (tl y))))) ((av (Af rfl hr) (Af rfl hlr)).trans (cM _ _)) rfl rfl) ?_;show bE _ _ (bδ ms r j f (some (.d (.int (k:Int)))) (some (.d (md y))) (some (.d (.list ((tl y).map pr)))) (some (.d (.int (bV r (tl y):Int)))) (some (.d (.list ((aq r (tl y)).map pr)))) (some (.d (.int (aZ r-aZ (aq r (tl y)))))) x10)=_;refine gM (δ':=bδ ms r j f (some (.d (.int (k:Int)))) (some (.d (md y))) (some (.d (.list ((tl y).map pr)))) (some (.d (.int (bV r (tl y):Int)))) (some (.d (.list ((aq r (tl y)).map pr)))) (some (.d (.int (aZ r-aZ (aq r (tl y)))))) (some (.d (gK b)))) (eE (x:=.d (gK b)) (aV (n:=3) (gw (x:=.new ((y::zs).map md)) (y:=.d (.list ((aq r (tl y)).map pr))) (z:=.d (.int (jl r j (tl y)))) ?_ rfl ((av (x:=.d (.int j)) (y:=.d (.int (bV r (tl y):Int))) rfl rfl).trans (by rw [cM,hj]))) rfl rfl hb1) rfl rfl) ?_
  ·unfold ur;show bd (rt (DV.d (.list ms))) _=_;rw [ay];show bd (rt (DV.d (.int (k:Int)))) _=_;rw [ay,Ia,ay];unfold yF;rw [xT,aP,ay,BU hk,hd]
  ·have e1:e2 aB (af 9) (e2 bz (af 10) (eC (.int 0))) (bδ ms r j f (some (.d (.int (k:Int)))) (some (.d (md y))) (some (.d (.list ((tl y).map pr)))) (some (.d (.int (bV r (tl y):Int)))) (some (.d (.list ((aq r (tl y)).map pr)))) (some (.d (.int (aZ r-aZ (aq r (tl y)))))) (some (.d (gK b))))=rt (.d (.int (aZ r-aZ (aq r (tl y))+b.1))):=
    (av (x:=.d (.int (aZ r-aZ (aq r (tl y))))) (y:=.d (.int b.1)) rfl ((av (x:=.d (gK b)) (y:=.d (.int 0)) rfl rfl).trans (aH rfl))).trans (bF _ _)
   have ht:(fun δ=>bd (e2 wz (e2 aB (af 9) (e2 bz (af 10) (eC (.int 0)))) (e2 bz (af 3) (eC (.int 0))) δ) bR) (bδ ms r j f (some (.d (.int (k:Int)))) (some (.d (md y))) (some (.d (.list ((tl y).map pr)))) (some (.d (.int (bV r (tl y):Int)))) (some (.d (.list ((aq r (tl y)).map pr)))) (some (.d (.int (aZ r-aZ (aq r (tl y)))))) (some (.d (gK b))))=rt (decide (f.1<aZ r-aZ (aq r (tl y))+b.1)):=
    bf ((av e1 ((av (x:=.d (gK f)) (y:=.d (.int 0)) rfl rfl).trans (aH rfl))).trans (ka _ _))
   by_cases LV:f.1<aZ r-aZ (aq r (tl y))+b.1
   ·rw [Lz LV] at ht;rw [if_pos ⟨h0,LV⟩];refine JD ht (eE (x:=.d (gK (aZ r-aZ (aq r (tl y))+b.1,y::b.2))) ?_ rfl rfl);unfold bj;rw [bQ e1 ((av (x:=.new [md y]) (y:=.d (.list (b.2.map md))) (HY rfl) ((av (x:=.d (gK b)) (y:=.d (.int 1)) rfl rfl).trans (aH rfl))).trans (oI rfl rfl rfl (by rw [List.length_map]; simp only [List.length_cons,List.length_nil]; lia)))];rfl
   ·rw [Ly LV] at ht;rw [if_neg fun z=>LV z.2];exact FV ht rfl
 ·refine ⟨some (.d (.list ((tl y).map pr))),some (.d (.int (bV r (tl y):Int))),x8,x9,x10,?_⟩;rw [if_neg fun z=>h0 z.1];refine gM (δ':=bδ ms r j f (some (.d (.int (k:Int)))) (some (.d (md y))) (some (.own ((tl y).map pr))) x7 x8 x9 x10) (eE (x:=.new ((tl y).map pr)) (aV (n:=1) (bp (x:=.d (md y)) rfl) rfl rfl g.law) rfl rfl) ?_;show bE _ _ (bδ ms r j f (some (.d (.int (k:Int)))) (some (.d (md y))) (some (.d (.list ((tl y).map pr)))) x7 x8 x9 x10)=_;refine gM (δ':=bδ ms r j f (some (.d (.int (k:Int)))) (some (.d (md y))) (some (.d (.list ((tl y).map pr)))) (some (.d (.int (bV r (tl y):Int)))) x8 x9 x10) (eE (x:=.d (.int (bV r (tl y):Int))) (aV (n:=2) (bQ (x:=.d (.list (r.map pr))) (y:=.d (.list ((tl y).map pr))) rfl rfl) rfl rfl (mU r (tl y) g.len)) rfl rfl) ?_;exact FV (bf ((av (x:=.d (.int (bV r (tl y):Int))) (y:=.d (.int j)) rfl rfl).trans ((g7 _ _).trans (by rw [Ly (show ¬(bV r (tl y):Int)<=j by lia)])))) rfl
theorem xm {ms:List D} (hr:r.length<=1000):∀(zs:List Ml) (k:Nat) (f:Int×List Ml) (x4 x5 x6 x7 x8 x9 x10:Option DV),(∀y∈zs,Mg y)->k<=ms.length->ms.drop k=zs.map md ->
  (∀y Nw,(y::Nw).Sublist zs->0<=jl r j (tl y)->mb [.d (.list ((y::Nw).map md)),.d (.list ((aq r (tl y)).map pr)),.d (.int (jl r j (tl y)))]=rt (.d (gK (B (y::Nw) (aq r (tl y)) (jl r j (tl y)))))/\(B (y::Nw) (aq r (tl y)) (jl r j (tl y))).2.length<=1000) ->
  ∃q4 q5 q6 q7 q8 q9 NA,dw (kP 2 (cJ (ar 4) (cJ (ar 5) lS))) (bB mb) (nT k (zs.map md)) (bδ ms r j f x4 x5 x6 x7 x8 x9 x10)=rt (.nx (bδ ms r j (vc B r j zs f) q4 q5 q6 q7 q8 q9 NA))
 |[],k,f,x4,x5,x6,x7,x8,x9,x10,_,_,_,_=>⟨x4,x5,x6,x7,x8,x9,x10,rfl⟩
 |y::zs,k,f,x4,x5,x6,x7,x8,x9,x10,hg,hk,hd,hb=>by
  obtain ⟨q6,q7,q8,q9,NA,e1⟩:=E4 (f:=f) (x6:=x6) (x7:=x7) (x8:=x8) (x9:=x9) (x10:=x10) (hg y K5) hr hk hd (hb y zs (List.Sublist.refl _));have Ow:k<ms.length:=by
   have:=congrArg List.length hd;rw [List.length_drop,List.length_map,List.length_cons] at this;lia
  have O1:ms.drop (k+1)=zs.map md:=by rw [<-List.drop_drop,hd]; rfl
  obtain ⟨p4,p5,p6,p7,p8,p9,p10,ih⟩:=xm hr zs (k+1) (if 0<=jl r j (tl y)/\f.1<aZ r-aZ (aq r (tl y))+(B (y::zs) (aq r (tl y)) (jl r j (tl y))).1 then (aZ r-aZ (aq r (tl y))+(B (y::zs) (aq r (tl y)) (jl r j (tl y))).1,y::(B (y::zs) (aq r (tl y)) (jl r j (tl y))).2) else f) (some (.d (.int (k:Int)))) (some (.d (md y))) q6 q7 q8 q9 NA (fun z hz=>hg z (K3 _ hz)) Ow O1 (fun z Nw s=>hb z Nw (s.trans (List.sublist_cons_self y zs)));refine ⟨p4,p5,p6,p7,p8,p9,p10,?_⟩;rw [List.map_cons,nT,dw];have e0:kP 2 (cJ (ar 4) (cJ (ar 5) lS)) (.tuple [.int (k:Int),md y]) (bδ ms r j f x4 x5 x6 x7 x8 x9 x10)=some (bδ ms r j f (some (.d (.int (k:Int)))) (some (.d (md y))) x6 x7 x8 x9 x10):=rfl;rw [e0,aP,ay,e1,ay,kY,ih];rfl
theorem uD {ys:List Ml} (hr:r.length<=1000) (hg:∀y∈ys,Mg y)
  (hb:∀y Nw,(y::Nw).Sublist ys->0<=jl r j (tl y)->mb [.d (.list ((y::Nw).map md)),.d (.list ((aq r (tl y)).map pr)),.d (.int (jl r j (tl y)))]=rt (.d (gK (B (y::Nw) (aq r (tl y)) (jl r j (tl y)))))/\(B (y::Nw) (aq r (tl y)) (jl r j (tl y))).2.length<=1000) :
  fN mb [.d (.list (ys.map md)),.d (.list (r.map pr)),.d (.int j)]=rt (.d (gK (vc B r j ys (0,[])))):=by
 obtain ⟨q4,q5,q6,q7,q8,q9,NA,e⟩:=xm (ms:=ys.map md) (j:=j) (mb:=mb) (B:=B) hr ys 0 (0,[]) none none none none none none none hg (Lv _) rfl hb;unfold fN;refine d9 (x:=.d (gK (vc B r j ys (0,[])))) ?_;unfold nJ;refine gM (δ':=bδ (ys.map md) r j (0,[]) none none none none none none none) rfl ?_;refine gM (δ':=bδ (ys.map md) r j (vc B r j ys (0,[])) q4 q5 q6 q7 q8 q9 NA) (mB (xs:=nT 0 (ys.map md)) rfl e) ?_;exact bD rfl
end
theorem vf {B:List Ml->List Tl->Int->Int×List Ml} {r:List Tl} {j:Int}:∀(ys:List Ml) (f:Int×List Ml),(∀y∈ys,¬0<=jl r j (tl y))->vc B r j ys f=f
 |[],_,_=>rfl
 |y::ys,f,h=>by
  unfold vc;rw [if_neg fun z=>h y K5 z.1];exact vf ys f fun z hz=>h z (K3 _ hz)
theorem HK:∀(n:Nat) (ys:List Ml) (r:List Tl) (j:Int),(LB n ys r j).2.length<=n:=by
 have go:∀(n:Nat) (B:List Ml->List Tl->Int->Int×List Ml) (r:List Tl) (j:Int),(∀ys r j,(B ys r j).2.length<=n)->∀(ys:List Ml) (f:Int×List Ml),f.2.length<=n+1->(vc B r j ys f).2.length<=n+1:=fun n B r j hB ys=>by
  induction ys with
  |nil=>intro f h; exact h
  |cons y ys ih=>
   intro f h;unfold vc;refine ih _ ?_;split
   ·show (_::_).length<=_;rw [List.length_cons];have:=hB (y::ys) (aq r (tl y)) (jl r j (tl y));lia
   ·exact h
 intro n
 induction n with
 |zero=>intro ys r j; exact K9 _
 |succ n ih=>intro ys r j; exact go n (LB n) r j ih ys (0,[]) (Lv _)
structure LbOk (n:Nat) (ys:List Ml) (r:List Tl) (j:Int):Prop where
 mg:∀y∈ys,Mg y
 len:r.length<=n
 j2:j<=2
noncomputable def Gd (q:List Ml×List Tl×Int):List DV:=[.d (.list (q.1.map md)),.d (.list (q.2.1.map pr)),.d (.int q.2.2)]
theorem xD {α β:Type} {f:α->β} (hf:∀{x y},f x=f y->x=y):∀{xs ys:List α},xs.map f=ys.map f->xs=ys
 |[],[],_=>rfl
 |[],_::_,h=>by cases h
 |_::_,[],h=>by cases h
 |x::xs,y::ys,h=>by
  rw [List.map_cons,List.map_cons] at h;have h1:=List.cons.inj h;rw [hf h1.1,xD hf h1.2]
theorem EG {q q':List Ml×List Tl×Int} (h:Gd q=Gd q'):q=q':=by
 obtain ⟨a,b,c⟩:=q;obtain ⟨a',b',c'⟩:=q';unfold Gd at h;have h1:=List.cons.inj h;have h2:=List.cons.inj h1.2;have h3:=List.cons.inj h2.2;have e1:a.map md=a'.map md:=PyData.list.inj (DV.d.inj h1.1);have e2:b.map pr=b'.map pr:=PyData.list.inj (DV.d.inj h2.1);have e3:c=c':=PyData.int.inj (DV.d.inj h3.1);have t1:cq (b.map pr)=some b:=dF b;have t2:cq (b'.map pr)=some b':=dF b';have e2':b=b':=LD (by rw [<-t1,<-t2,e2]);rw [xD zT e1,e2',e3]
open Classical in
noncomputable def lL (n:Nat) (xs:List DV):M DV:=if h:∃q,xs=Gd q/\LbOk n q.1 q.2.1 q.2.2 then rt (.d (gK (LB n h.choose.1 h.choose.2.1 h.choose.2.2))) else none
variable {n:Nat}
theorem Fw {ys:List Ml} {r:List Tl} {j:Int} (o:LbOk n ys r j):lL n [.d (.list (ys.map md)),.d (.list (r.map pr)),.d (.int j)]=rt (.d (gK (LB n ys r j))):=by
 have h:∃q,Gd (ys,r,j)=Gd q/\LbOk n q.1 q.2.1 q.2.2:=⟨(ys,r,j),rfl,o⟩;show lL n (Gd (ys,r,j))=_;unfold lL;rw [dif_pos h];have e:=EG h.choose_spec.1;rw [<-e]
variable {xs:List DV} {x:DV}
theorem Fz (h:lL n xs=some (.ok x)):∃ys r j,xs=[.d (.list (ys.map md)),.d (.list (r.map pr)),.d (.int j)]/\LbOk n ys r j/\x=.d (gK (LB n ys r j)):=by
 unfold lL at h;split at h
 ·rename_i hq;cases h;exact ⟨_,_,_,hq.choose_spec.1,hq.choose_spec.2,rfl⟩
 ·cases h
theorem CZ (h:lL 0 xs=some (.ok x)):fN (fun _=>none) xs=some (.ok x):=by
 obtain ⟨ys,r,j,rfl,o,rfl⟩:=Fz h;have hr:r=[]:=LH (Nat.le_zero.mp o.len);have hn:∀y∈ys,¬0<=jl r j (tl y):=fun y hy h0=>by
  have:=fO h0 o.j2 (o.mg y hy).three;rw [hr] at this;simp at this
 rw [uD (B:=fun _ _ _=>(0,[])) (Lw o.len 0x3) o.mg fun y Nw s h0=>absurd h0 (hn y (s.subset K5)),vf _ _ hn];rfl
theorem EY (hn:n<=900) (h:lL (n+1) xs=some (.ok x)):fN (lL n) xs=some (.ok x):=by
 obtain ⟨ys,r,j,rfl,o,rfl⟩:=Fz h;have hl:=o.len;rw [uD (B:=LB n) 0x1 o.mg fun y Nw s h0=>⟨Fw ⟨fun z hz=>o.mg z (s.subset hz),?_,LG (jw _ _ _) o.j2⟩,?_⟩]
 ·rfl
 ·have:=fO h0 o.j2 (o.mg y (s.subset K5)).three;lia
 ·exact Lw (HK n _ _ _) 0x1
theorem mg_of {m c:Nat} (hm:m<=13) (h1:1<=c) (h4:c<=4) {y:Ml} (hy:y∈t9 m c):Mg y:=by
 obtain ⟨ok,_⟩:=Bb hm h1 h4 hy;have hA:tl y∈HW m c:=Ll.mpr ⟨y,hy,rfl⟩;have hl:=nh hm h1 h4 hA;refine ⟨ok.law,hl.1,0x1,(Cg h1 h4 hA).imp fun {a b} h e=>?_⟩;subst e;unfold GH at h;lia
theorem yN {m c:Nat} (hm:m<=13) (h1:1<=c) (h4:c<=4) {h:List Tl} {j:Int} (H:Hand m c h j):dB (lL 12) [.d (.int (m:Int)),.d (.int (c:Int)),.d (.list (h.map pr)),.d (.int j)]=rt (.d (gK (GW m c h j,BL m c h j))):=by
 have hl:=tJ hm h4;have hlb:LB 12 (og m c h j) h j=(GW m c h j,BL m c h j):=by
  have T:=Gi hm h1 h4 h j;rw [ug T 12 (og m c h j) [] h j (fun y hy=>Ll.mpr ⟨y,hy,rfl⟩) (fun w hw=>.inr hw) H.len (by have:=H.len; lia) H.stt H.one (fun _ _ _ _ _ h=>nomatch h) rfl];rfl
 unfold dB;refine d9 (x:=.d (gK (GW m c h j,BL m c h j))) ?_;unfold jS;refine gM (δ':=[some (.d (.int (m:Int))),some (.d (.int (c:Int))),some (.d (.list (h.map pr))),some (.d (.int j)),some (.own ((og m c h j).map md))]) (eE (x:=.new ((og m c h j).map md)) ?_ rfl rfl) ?_
 ·refine br (xs:=(t9 m c).map md) (vU (aV (n:=2) (x:=.new ((t9 m c).map md)) (bQ (x:=.d (.int (m:Int))) (y:=.d (.int (c:Int))) rfl rfl) rfl rfl (by rw [tj]; exact uC m c hm h1 h4))) (by rw [List.length_map]; lia) ?_;refine eF (f:=md) (b:=fun y=>decide (0<=jl h j (tl y))) (g:=md) fun y hy=>⟨?_,rfl⟩;have g:=mg_of hm h1 h4 hy;have hj:=xx (r:=h) g.nd j;refine bf ((av (x:=.d (.int (bV h (tl y):Int))) (y:=.d (.int j)) ?_ rfl).trans ((g7 _ _).trans ?_))
  ·exact aV (n:=2) (bQ (x:=.d (.list (h.map pr))) (y:=.new ((tl y).map pr)) rfl (aV (n:=1) (bp (x:=.d (md y)) rfl) rfl rfl g.law)) rfl rfl (mU h (tl y) g.len)
  ·rw [show decide ((bV h (tl y):Int)<=j)=decide (0<=jl h j (tl y)) from decide_eq_decide.mpr 0x1]
 ·show bx _ [some (.d (.int (m:Int))),some (.d (.int (c:Int))),some (.d (.list (h.map pr))),some (.d (.int j)),some (.d (.list ((og m c h j).map md)))]=_;refine bD (aV (n:=3) (gw (x:=.d (.list ((og m c h j).map md))) (y:=.d (.list (h.map pr))) (z:=.d (.int j)) rfl rfl rfl) rfl rfl ?_);rw [Fw (ys:=og m c h j) ⟨fun y hy=>mg_of hm h1 h4 (Lo.mp hy).1,H.len,H.j2⟩,hlb]
open PyProof.Rows hiding St
theorem Fi {x y:D} (hx:(kT x).isSome=true) (hy:(kT y).isSome=true):cD true x y=some (ll (kO x) (kO y)):=by
 obtain ⟨k,e⟩:=Lq.mp hx;obtain ⟨k',e'⟩:=Lq.mp hy;have h1:kO x=k:=by show (kT x).getD []=k; rw [e]; rfl
 have h2:kO y=k':=by show (kT y).getD []=k'; rw [e']; rfl
 rw [h1,h2,qh e,qh e',cD];exact oi k k'
theorem Bd {x:D} (hx:(kT x).isSome=true):hZ x=true:=by
 obtain ⟨k,e⟩:=Lq.mp hx;rw [qh e,hZ];exact si k
theorem Eu {ys:List D} (h:∀y∈ys,(kT y).isSome=true/\(kO y).length≠0) (hl:ys.length<=10000):Cmp2 ys:=
 ⟨fun y hy=>Bd (h y hy).1,fun x hx y hy=>by rw [Fi (h x hx).1 (h y hy).1]; rfl,.inl fun y hy=>by
  obtain ⟨k,e⟩:=Lq.mp (h y hy).1;have h1:kO y=k:=by show (kT y).getD []=k; rw [e]; rfl
  have h2:=(h y hy).2;rw [h1] at h2;rw [qh e];cases k with
  |nil=>exact absurd rfl h2
  |cons i r=>exact ⟨i,_,rfl⟩,fun y hy=>by
  obtain ⟨k,e⟩:=Lq.mp (h y hy).1;rw [qh e,PyData.depth];have:=rY k;lia,hl⟩
theorem AV {ys:List D} (h:∀y∈ys,(kT y).isSome=true):se ys=DF ys:=by
 have h':∀y∈se ys,(kT y).isSome=true:=fun y hy=>h y ((dW ys).mem_iff.mp hy);refine yr ((dW ys).trans (jz ys).symm) ?_ (tX ys) h';refine List.Pairwise.imp_of_mem (fun {a b} ha hb Nt=>?_) (lB ys);rw [wy (Bd (h' b hb)) (Bd (h' a ha)) (Fi (h' b hb) (h' a ha))] at Nt;exact Nt
theorem IC {r:Except Value DV} (e:sN xs=some r):oZ xs=some r:=by
 unfold sN at e;split at e
 ·obtain ⟨ys,e1,e2⟩:=bu e;split at e2
  ·rename_i hz;have hk:∀y∈ys,(kT y).isSome=true/\(kO y).length≠0:=fun y hy=>by
    have:=List.all_eq_true.mp hz.2 y hy;rw [Bool.and_eq_true] at this;exact ⟨this.1,of_decide_eq_true this.2⟩
   unfold oZ;simp only [e1,aP,ay];rw [if_pos (Eu hk 0x1),AV fun y hy=>(hk y hy).1];exact e2
  ·cases e2
 ·cases e
theorem o9 {X:Cx} {E:XK} (hu:X.A.units+64<cLine):dI X E (.builtin "sorted") sN:=fun pins s σ O P H₀ H xs vs us r Q I hd hs rx rv e q=>pR hu pins s σ O P H₀ H xs vs us r Q I hd hs rx rv (IC e) q
end LW
namespace K4
open PySem PySem.Spec L2 L3 LW
open PyProof.Rows hiding St
noncomputable def jh (i:Nat):Stmt:=PySem.Challenge.pw_meldhouse_k04_best_layings.main.body.getD i (.Pass ⟨0,0,0,0⟩)
structure Tx (K:Li) (mg:Str->Option Value) (C:Addr):Prop where
 cl:Cls K C
 n_colours:d0 K C "colours"
 n_most:d0 K C "most"
 i_LEAST_NUMBERS:∃t,mg "LEAST_NUMBERS" = some (.int 3 t)
 i_MOST_NUMBERS:∃t,mg "MOST_NUMBERS" = some (.int 13 t)
 i_LEAST_COLOURS:∃t,mg "LEAST_COLOURS" = some (.int 1 t)
 i_MOST_COLOURS:∃t,mg "MOST_COLOURS" = some (.int 4 t)
 i_MOST_TILES:∃t,mg "MOST_TILES" = some (.int 12 t)
 i_MOST_ALIKE:∃t,mg "MOST_ALIKE" = some (.int 2 t)
 i_MOST_JOKERS:∃t,mg "MOST_JOKERS" = some (.int 2 t)
 i_LEAST_SIZE:∃t,mg "LEAST_SIZE" = some (.int 3 t)
 b_all:mg "all" = none
 b_bool:mg "bool" = none
 b_enumerate:mg "enumerate" = none
 b_int:mg "int" = none
 b_isinstance:mg "isinstance" = none
 b_len:mg "len" = none
 b_list:mg "list" = none
 b_min:mg "min" = none
 b_range:mg "range" = none
 b_sorted:mg "sorted" = none
 b_sum:mg "sum" = none
 b_tuple:mg "tuple" = none
structure Rx (K:Li) (mg:Str->Option Value) (Ld Lf Lg Lh:Addr):Prop where
 x_BadHand:Xc K mg "BadHand" Ld
 x_BadLaying:Xc K mg "BadLaying" Lg
structure Tt (K:Li) (CT:Addr):Prop where
 cl:Cls K CT
 n_by_least:d0 K CT "by_least"
 n_known:d0 K CT "known"
def yo (K:Li) (C:Addr) (m ql:Str) (st:Stmt) (ps:List Str):Prop:=∃f fd,Fun K m ql st f fd/\Meth K C m f/\f6 K fd ps []
variable {k:Nat}
theorem yo.has {P:Program} {w:World} {K:Li} {mg:Str->Option Value} {base:Heap} {C:Addr} {m ql:Str} {st:Stmt} {ps:List Str} {n:Nat} {fm:List DV->M DV} (D:yo K C m ql st ps) (no:∀v u:V,([("by_least",v),("known",u)]:List (Str×V)).lookup m=none) (h:∀f fd,Fun K m ql st f fd->FnOk P w K mg base tK k f fd ps (DP n fm)):HasM P w K mg base k C m n fm:=by
 obtain ⟨f,fd,Fu,hm,hb⟩:=D;exact ⟨⟨f,fd,ps,h f fd Fu,hm,hb⟩,no⟩
abbrev Kz (P:Program) (w:World) (K:Li) (mg:Str->Option Value) (base:Heap) (C Lf:Addr):Prop:=Hs P w K mg base "House" C Lf good "most" "colours"
local macro_rules|`(0x63)=>`(by dsimp only [aQ]; decide +kernel)
local macro_rules|`(0x62)=>`(⟨rfl,0x2,0x2,0x2,rfl,0x2⟩)
local macro_rules|`(0x61)=>`(⟨rfl,rfl,rfl,0x2,rfl,0x2,0x2⟩)
section
variable {P:Program} {w:World} {K:Li} {mg:Str->Option Value} {base:Heap}
noncomputable abbrev iw:Stmt:=jh 15
theorem pB:FnScope ["house", "tile"] ["house", "tile"] (ak iw):=0x61
noncomputable abbrev dn:Stmt:=jh 16
theorem jJ:FnScope ["row"] ["row"] (ak dn):=0x61
noncomputable abbrev gg:Stmt:=jh 17
theorem pK:FnScope ["house", "hand", "jokers"] ["house", "hand", "jokers"] (ak gg):=0x61
noncomputable abbrev eQ:Stmt:=jh 18
theorem kF:FnScope ["house", "hand", "jokers"] ["house", "hand", "jokers"] (ak eQ):=0x61
noncomputable abbrev jB:Stmt:=jh 21
theorem qW:FnScope ["house", "colour", "first", "size", "last"] ["house", "colour", "first", "size"] (ak jB):=0x61
noncomputable abbrev eI:Stmt:=jh 22
theorem nB:FnScope ["house", "number", "colours"] ["house", "number", "colours"] (ak eI):=0x61
noncomputable abbrev iz:Stmt:=jh 23
theorem p0:FnScope ["house", "meld"] ["house", "meld"] (ak iz):=0x61
noncomputable abbrev eB:Stmt:=jh 24
theorem nG:FnScope ["house", "meld"] ["house", "meld"] (ak eB):=0x61
noncomputable abbrev bP:Stmt:=jh 25
theorem gP:FnScope ["house", "choices", "colour"] ["house"] (ak bP):=0x61
noncomputable abbrev dN:Stmt:=jh 26
theorem kq:FnScope ["house", "choices", "found", "number"] ["house"] (ak dN):=0x61
noncomputable abbrev fu:Stmt:=jh 27
theorem nv:FnScope ["house", "found", "colour", "first", "room"] ["house"] (ak fu):=0x61
noncomputable abbrev lJ:Stmt:=jh 28
theorem u6:FnScope ["house"] ["house"] (ak lJ):=0x61
noncomputable abbrev j6:Stmt:=jh 30
theorem vh:FnScope ["tiles"] ["tiles"] (ak j6):=0x61
noncomputable abbrev ik:Stmt:=jh 31
theorem pH:FnScope ["tiles", "jokers", "wanted", "rest", "tile", "from_hand"] ["tiles", "jokers", "wanted"] (ak ik):=0x61
noncomputable abbrev bO:Stmt:=jh 33
theorem gN:FnScope ["house", "hand", "jokers", "pairs"] ["house", "hand", "jokers"] (ak bO):=0x61
noncomputable abbrev cU:Stmt:=jh 34
theorem gS:FnScope ["playable", "by_least", "pair", "tile"] ["playable"] (ak cU):=0x61
noncomputable abbrev yY:Stmt:=lR (jh 35) 0
theorem H9:FnScope ["self", "playable"] ["self", "playable"] (ak yY):=0x61
noncomputable abbrev jD:Stmt:=lR (jh 35) 1
theorem xN:FnScope ["self", "tiles", "jokers", "after"] ["self", "tiles", "jokers"] (ak jD):=0x61
noncomputable abbrev dP:Stmt:=lR (jh 35) 2
theorem kn:FnScope ["self", "tiles", "jokers", "key"] ["self", "tiles", "jokers"] (ak dP):=0x61
noncomputable abbrev cV:Stmt:=lR (jh 35) 3
theorem i8:FnScope ["self", "tiles", "jokers", "sums", "rest", "unused"] ["self", "tiles", "jokers"] (ak cV):=0x61
noncomputable abbrev dH:Stmt:=jh 36
theorem jg:FnScope ["table", "playable", "hand", "jokers", "goal", "laying", "rest", "unused", "meld", "wanted", "after"] ["table", "playable", "hand", "jokers"] (ak dH):=0x61
noncomputable abbrev pk:Stmt:=jh 37
theorem yt:FnScope ["house", "hand", "jokers", "playable", "table", "greatest"] ["house", "hand", "jokers"] (ak pk):=0x61
noncomputable abbrev dD:Stmt:=jh 39
theorem i7:FnScope ["script", "k"] ["script", "k"] (ak dD):=0x61
noncomputable abbrev gA:Stmt:=jh 40
theorem ny:FnScope ["cell", "k", "many", "some", "stir"] ["cell", "k", "many"] (ak gA):=0x61
noncomputable abbrev eV:Stmt:=jh 41
theorem ko:FnScope ["found"] ["found"] (ak eV):=0x61
noncomputable abbrev dh:Stmt:=jh 42
theorem g9:FnScope ["script", "cell"] ["script"] (ak dh):=0x61
noncomputable abbrev dC:Stmt:=jh 43
theorem ja:FnScope ["tiles", "limit", "found", "tile"] ["tiles", "limit"] (ak dC):=0x61
noncomputable abbrev ck:Stmt:=jh 44
theorem jd:FnScope ["script", "start", "most", "colours", "limit", "tiles", "k", "cell", "number", "colour", "size"] ["script", "start", "most", "colours", "limit"] (ak ck):=0x61
noncomputable abbrev cY:Stmt:=jh 45
theorem gQ:FnScope ["script", "hand", "cell"] ["script", "hand"] (ak cY):=0x61
noncomputable abbrev de:Stmt:=jh 46
theorem kx:FnScope ["meld"] ["meld"] (ak de):=0x61
noncomputable abbrev cB:Stmt:=jh 47
theorem ku:FnScope ["most", "colours", "found", "colour", "first", "kinds", "number"] ["most", "colours"] (ak cB):=0x61
noncomputable abbrev cX:Stmt:=jh 48
theorem jc:FnScope ["rest", "tiles"] ["rest", "tiles"] (ak cX):=0x61
noncomputable abbrev dE:Stmt:=jh 49
theorem i6:FnScope ["rest", "tiles", "found", "tile"] ["rest", "tiles"] (ak dE):=0x61
noncomputable abbrev c8:Stmt:=jh 50
theorem lE:FnScope ["some", "rest", "jokers", "found", "k", "meld", "tiles", "wanting", "behind", "gain", "more"] ["some", "rest", "jokers"] (ak c8):=0x61
noncomputable abbrev cO:Stmt:=jh 51
theorem jf:FnScope ["most", "colours", "hand", "jokers", "some"] ["most", "colours", "hand", "jokers"] (ak cO):=0x61
noncomputable abbrev pZ:Stmt:=jh 52
theorem BS:FnScope ["script", "most", "colours", "house", "hand", "jokers", "due", "lap", "handed", "found"] ["script"] (ak pZ):=0x61
noncomputable def Fy (P:Program) (w:World) (K:Li) (C:Addr) (CT:Addr) (Ld:Addr) (Lf:Addr) (Lg:Addr) (B':List DV->M DV) (m__law_best:List DV->M DV):DS->M Out:=(bE (CI (kP 2 (cJ (ar 1) (cJ (ar 2) lS))) (aR (aw 1 (dk K)) (aa (af 0) ai))) (bE (aK 3 (Hy C Lf (aa (af 1) (aa (af 2) ai)))) (bE (aK 4 (aR (aw 5 (dJ K)) (aa (af 0) (aa (eC (.int 2)) (aa (af 1) (aa (af 2) (aa (eC (.int 7)) ai))))))) (fun δ=>(bE (aK 5 (aR (aw 2 (cf K)) (aa (af 0) (aa (af 4) ai)))) (fun δ=>(bE (aK 6 (aR (aw 4 (dB m__law_best)) (aa (af 1) (aa (af 2) (aa (af 4) (aa (af 5) ai)))))) (bE (cG (rS (aa (eC (.int 2)) ai)) (ar 7) (bE (aK 8 (aR uy (aa (af 4) ai))) (fun δ=>(bE (aK 9 (aR (jH 3 (iV P w C CT Ld Lg B')) (aa (af 3) (aa (af 8) (aa (af 5) ai))))) (bE (gk (fun δ=>(yw (gm (fun δ=>bd ((Gk "tuple" (af 9)) δ) bR)) (yw (fun δ=>bd (e2 (iG true) (aR c6 (aa (af 9) ai)) (eC (.int 2)) δ) bR) (yw (gm (fun δ=>bd ((aR (aw 1 (gf)) (aa (e2 bz (af 9) (eC (.int 0))) ai)) δ) bR)) (fun δ=>bd (e2 (iG true) (af 8) (af 4) δ) bR)))) (frz 9 δ)) (bx (eC (.bool false))) b9) (bE (gk (fun δ=>(yw (gm (fun δ=>bd ((Gk "list" (e2 bz (af 9) (eC (.int 1)))) δ) bR)) (yw (fun δ=>bd (e2 (iG true) (e2 bz (af 9) (eC (.int 0))) (e2 bz (af 6) (eC (.int 0))) δ) bR) (fun δ=>bd (e2 (iG true) (e2 bz (af 9) (eC (.int 1))) (e2 bz (af 6) (eC (.int 1))) δ) bR))) (frz 9 δ)) (bx (eC (.bool false))) b9) (xp 9 1 (bj (aa (eC (.str "run")) (aa (eC (.int 0)) (aa (eC (.int 1)) (aa (eC (.int 3)) ai))))))))) (frz 8 δ)))) (bx (eC (.bool true))))) (frz 4 δ))) (frz 4 δ)))))
noncomputable def rD (P:Program) (w:World) (K:Li) (C:Addr) (CT:Addr) (Ld:Addr) (Lf:Addr) (Lg:Addr) (B':List DV->M DV) (m__law_best:List DV->M DV):List DV->M DV:=eT ["script", "most", "colours", "house", "hand", "jokers", "due", "lap", "handed", "found"] (Fy P w K C CT Ld Lf Lg B' m__law_best)
variable {C CT Ld Lf Lg Lh:Addr} (T:Tx K mg C) (R:Rx K mg Ld Lf Lg Lh)
include T R
theorem eJ  (D:Df K mg "is_tile" iw ["house", "tile"])   : Has P w K mg base 1 "is_tile" 2 (bW C):=D.has fun f fd Fu=>lq (k:=0) Fu pB rfl fun LM A outer s H E hr=>by
 have hu:=dA hr;have nd:=pB.nd;refine aA ?_;exact aT (mJ (uj (fD hu) (fD hu) aj (aY (ag 1 (pv 1)) aj) (kK (ag 0 (pv 0)) T.cl T.n_most)) (qe (uj (fD hu) (kN hu) aj (aY (ag 1 (pv 1)) aj) (kK (ag 0 (pv 0)) T.cl T.n_colours))))
theorem gW  (D:Df K mg "is_in_order" dn ["row"])   : Has P w K mg base 1 "is_in_order" 1 (dq):=D.has fun f fd Fu=>lq (k:=0) Fu jJ rfl fun LM A outer s H E hr=>by
 have hu:=dA hr;have nd:=jJ.nd;refine aA ?_;exact aT (aX (sr rfl) rfl T.b_all sI (ae (bG (N':=["k", "row"]) (CompSc.fit (sc:=ak dn) (N:=["row"]) 0x62) 0x3 rfl (lP T.b_range (ae aj (ae (aX eU rfl T.b_len eA (ae (ag 0 (pv 0)) ah)) ah))) (aF 0) (a5 0x3) (fun _ _ _ _=>(fU (i:=0) 0x63)) (fun _ _ _ _=>dc) (fun _ _ _ _=>(ng (fD hu) (aY (ag 1 (pv 1)) (aL fV (ag 0 (pv 0)) aj)) (aY (ag 1 (pv 1)) (ag 0 (pv 0)))))) ah))
theorem mV  (D:Df K mg "is_hand" gg ["house", "hand", "jokers"])  (eJ:Has P w K mg base 1 "is_tile" 2 (bW C)) (gW:Has P w K mg base 1 "is_in_order" 1 (dq)):Has P w K mg base 2 "is_hand" 3 (gZ C):=D.has fun f fd Fu=>lq (k:=1) Fu pK rfl fun LM A outer s H E hr=>by
 have hu:=dA hr;have nd:=pK.nd;refine au ?_ ?_
 ·refine dY ?_ ?_ ?_
  ·exact (zf.pb (rG (bJ xU (aX eU rfl T.b_len eA (ae (ag 1 (pv 1)) ah)) (je T.i_MOST_TILES)) (wO (gv (pN (fD hu) (fD hu) aj (ag 2 (pv 2)) (je T.i_MOST_JOKERS))))))
  ·refine aA ?_;exact aT pW
  ·exact cE
 ·refine au ?_ ?_
  ·refine dY ?_ ?_ ?_
   ·exact (gv (k9 (aX (sr rfl) rfl T.b_all sI (ae (bG (N':=["tile", "house", "hand"]) (CompSc.fit (sc:=ak gg) (N:=["house", "hand", "jokers"]) 0x62) 0x3 rfl (dZ (ag 1 (pv 1))) (aF 0) (a5 0x3) (fun _ _ _ _=>(fU (i:=0) 0x63)) (fun _ _ _ _=>dc) (fun _ _ _ _=>(mJ (aN (eJ.mono 0x3) hr (ae (ag 1 (pv 1)) (ae (ag 0 (pv 0)) ah))) (qe (ng (fD hu) (uV hu (ag 2 (pv 2)) (ag 0 (pv 0))) (je T.i_MOST_ALIKE)))))) ah))))
   ·refine aA ?_;exact aT pW
   ·exact cE
  ·refine aA ?_;exact aT (aN (gW.mono 0x3) hr (ae (ag 1 (pv 1)) ah))
theorem iK  (D:Df K mg "check_hand" eQ ["house", "hand", "jokers"])  (mV:Has P w K mg base 2 "is_hand" 3 (gZ C)):HasX P w K mg base 3 "check_hand" 3 (eS C Ld):=D.hasX fun f fd Fu=>Jy (k:=2) Fu kF rfl fun LM A outer s H E hr=>by
 have hu:=dA hr;have nd:=kF.nd;refine aA ?_;refine dY ?_ ?_ ?_
 ·exact (gv (k9 (aN (mV.mono 0x3) hr (by refine ae ?_ ?_; (exact (ag 0 (pv 0))); (exact (ae (ag 1 (pv 1)) (ae (ag 2 (pv 2)) ah)))))))
 ·refine aA ?_;exact uP (u4 hr) R.x_BadHand
 ·exact cE
theorem o6  (D:Df K mg "is_run" jB ["house", "colour", "first", "size"])  (eJ:Has P w K mg base 1 "is_tile" 2 (bW C)):Has P w K mg base 2 "is_run" 4 (jN C):=D.has fun f fd Fu=>lq (k:=1) Fu qW rfl fun LM A outer s H E hr=>by
 have hu:=dA hr;have nd:=qW.nd;refine au ?_ ?_
 ·refine aJ (i:=4) ?_ ?_
  ·exact nd
  ·exact (aL fV (aL bh (ag 2 (pv 2)) (ag 3 (pv 3))) aj)
 ·refine aA ?_;exact aT (mJ (ng uE (ag 3 (pv 3)) (je T.i_LEAST_SIZE)) (mJ (aN (eJ.mono 0x3) hr (ae (ag 0 (pv 0)) (ae (bY (ae (ag 2 (pv 2)) (ae (ag 1 (pv 1)) ah))) ah))) (qe (aN (eJ.mono 0x3) hr (ae (ag 0 (pv 0)) (ae (bY (ae (ag 4 (pv 4)) (ae (ag 1 (pv 1)) ah))) ah))))))
theorem kR  (D:Df K mg "is_group" eI ["house", "number", "colours"])  (eJ:Has P w K mg base 1 "is_tile" 2 (bW C)):Has P w K mg base 2 "is_group" 3 (gn C):=D.has fun f fd Fu=>lq (k:=1) Fu nB rfl fun LM A outer s H E hr=>by
 have hu:=dA hr;have nd:=nB.nd;refine au ?_ ?_
 ·refine dY ?_ ?_ ?_
  ·exact (bJ (kN hu) (aX eU rfl T.b_len eA (ae (ag 2 (pv 2)) ah)) (je T.i_LEAST_SIZE))
  ·refine aA ?_;exact aT pW
  ·exact cE
 ·refine au ?_ ?_
  ·refine dY ?_ ?_ ?_
   ·exact (gv (k9 (aX (sr rfl) rfl T.b_all sI (ae (bG (N':=["colour", "house", "number"]) (CompSc.fit (sc:=ak eI) (N:=["house", "number", "colours"]) 0x62) 0x3 rfl (Ao (ag 2 (pv 2))) (aF 0) (a5 0x3) (fun _ _ _ _=>(fU (i:=0) 0x63)) (fun _ _ _ _=>dc) (fun _ _ _ _=>(aN (eJ.mono 0x3) hr (ae (ag 1 (pv 1)) (ae (bY (ae (ag 2 (pv 2)) (ae (ag 0 (pv 0)) ah))) ah))))) ah))))
   ·refine aA ?_;exact aT pW
   ·exact cE
  ·refine aA ?_;exact aT (aX (sr rfl) rfl T.b_all sI (ae (bG (N':=["k", "colours"]) (CompSc.fit (sc:=ak eI) (N:=["house", "number", "colours"]) 0x62) 0x3 rfl (lP T.b_range (ae aj (ae (aX eU rfl T.b_len eA (ae (ag 2 (pv 2)) ah)) ah))) (aF 0) (a5 0x3) (fun _ _ _ _=>(fU (i:=0) 0x63)) (fun _ _ _ _=>dc) (fun _ _ _ _=>(ng (kN hu) (aY (ag 1 (pv 1)) (aL fV (ag 0 (pv 0)) aj)) (aY (ag 1 (pv 1)) (ag 0 (pv 0)))))) ah))
theorem mM  (D:Df K mg "is_meld" iz ["house", "meld"])  (o6:Has P w K mg base 2 "is_run" 4 (jN C)) (kR:Has P w K mg base 2 "is_group" 3 (gn C)):Has P w K mg base 3 "is_meld" 2 (cT C):=D.has fun f fd Fu=>lq (k:=2) Fu p0 rfl fun LM A outer s H E hr=>by
 have hu:=dA hr;have nd:=p0.nd;refine au ?_ ?_
 ·refine dY ?_ ?_ ?_
  ·exact (bJ (lZ hu) (aY (ag 1 (pv 1)) aj) (iT 0x2))
  ·refine aA ?_;exact aT (aN (o6.mono 0x3) hr (by refine ae ?_ ?_; (exact (ag 0 (pv 0))); (exact (by refine ae ?_ ?_; (exact (aY (ag 1 (pv 1)) aj)); (exact (by refine ae ?_ ?_; (exact (aY (ag 1 (pv 1)) aj)); (exact (by refine ae ?_ ?_; (exact (aY (ag 1 (pv 1)) aj)); (exact ah)))))))))
  ·exact cE
 ·refine aA ?_;exact aT (mJ (ng (lZ hu) (aY (ag 1 (pv 1)) aj) (iT 0x2)) (qe (aN (kR.mono 0x3) hr (by refine ae ?_ ?_; (exact (ag 0 (pv 0))); (exact (ae (aY (ag 1 (pv 1)) aj) (ae (aY (ag 1 (pv 1)) aj) ah)))))))
theorem k8  (D:Df K mg "tiles_of" eB ["house", "meld"])  (mM:Has P w K mg base 3 "is_meld" 2 (cT C)):HasX P w K mg base 4 "tiles_of" 2 (cF C Lg):=D.hasX fun f fd Fu=>Jy (k:=3) Fu nG rfl fun LM A outer s H E hr=>by
 have hu:=dA hr;have nd:=nG.nd;refine au ?_ ?_
 ·refine dY ?_ ?_ ?_
  ·exact (gv (k9 (aN (mM.mono 0x3) hr (ae (ag 0 (pv 0)) (ae (ag 1 (pv 1)) ah)))))
  ·refine aA ?_;exact uP (u4 hr) R.x_BadLaying
  ·exact cE
 ·refine au ?_ ?_
  ·refine dY ?_ ?_ ?_
   ·exact (bJ (lZ hu) (aY (ag 1 (pv 1)) aj) (iT 0x2))
   ·refine aA ?_;exact aT (bG (N':=["k", "meld"]) (CompSc.fit (sc:=ak eB) (N:=["house", "meld"]) 0x62) 0x3 rfl (l0 T.b_range (ae (aY (ag 1 (pv 1)) aj) ah)) (aF 0) (a5 0x3) (fun _ _ _ _=>(fU (i:=0) 0x63)) (fun _ _ _ _=>dc) (fun _ _ _ _=>(bY (ae (aL bh (aY (ag 1 (pv 1)) aj) (ag 0 (pv 0))) (ae (aY (ag 1 (pv 1)) aj) ah)))))
   ·exact cE
  ·refine aA ?_;exact aT (bG (N':=["colour", "meld"]) (CompSc.fit (sc:=ak eB) (N:=["house", "meld"]) 0x62) 0x3 rfl (Ao (aY (ag 1 (pv 1)) aj)) (aF 0) (a5 0x3) (fun _ _ _ _=>(fU (i:=0) 0x63)) (fun _ _ _ _=>dc) (fun _ _ _ _=>(bY (ae (aY (ag 1 (pv 1)) aj) (ae (ag 0 (pv 0)) ah)))))
theorem fB  (D:Df K mg "colour_choices" bP ["house"])   : Has P w K mg base 1 "colour_choices" 1 (b8 C):=D.has fun f fd Fu=>lq (k:=0) Fu gP rfl fun LM A outer s H E hr=>by
 have hu:=dA hr;have nd:=gP.nd;refine au ?_ ?_
 ·refine aJ (i:=1) ?_ ?_
  ·exact nd
  ·exact (cQ (ae (bY ah) ah))
 ·refine au ?_ ?_
  ·refine d8 PassesOwn.never rfl ?_ (fU (i:=2) (by exact nd)) (aF 2) ?_
   ·exact (l0 T.b_range (ae (kK (ag 0 (pv 0)) T.cl T.n_colours) ah))
   ·refine dt 1 ?_;refine aA ?_;refine aJ (i:=1) ?_ ?_
    ·exact nd
    ·exact (aL bh (ag 1 (pv 1)) (bG (N':=["choice", "colour"]) (CompSc.fit (sc:=ak bP) (N:=["house", "choices", "colour"]) 0x62) 0x3 rfl (dZ (ag 1 (pv 1))) (aF 0) (a5 0x3) (fun _ _ _ _=>(fU (i:=0) 0x63)) (fun _ _ _ _=>dc) (fun _ _ _ _=>(aL bh (ag 0 (pv 0)) (bY (ae (ag 1 (pv 1)) ah))))))
  ·refine dt 1 ?_;refine aA ?_;exact aT (aX (o9 hu) rfl T.b_sorted mS (ae (bG (N':=["choice"]) (CompSc.fit (sc:=ak bP) (N:=["house", "choices", "colour"]) 0x62) 0x3 rfl (dZ (ag 1 (pv 1))) (aF 0) (a5 0x3) (fun _ _ _ _=>(fU (i:=0) 0x63)) (fun _ _ _ _=>k7 (bJ uE (aX eU rfl T.b_len eA (ae (ag 0 (pv 0)) ah)) (je T.i_LEAST_SIZE))) (fun _ _ _ _=>(ag 0 (pv 0)))) ah))
theorem iW  (D:Df K mg "all_groups" dN ["house"])  (fB:Has P w K mg base 1 "colour_choices" 1 (b8 C)):Has P w K mg base 2 "all_groups" 1 (dU C):=D.has fun f fd Fu=>lq (k:=1) Fu kq rfl fun LM A outer s H E hr=>by
 have hu:=dA hr;have nd:=kq.nd;refine au ?_ ?_
 ·refine aJ (i:=1) ?_ ?_
  ·exact nd
  ·exact (aN (fB.mono 0x3) hr (ae (ag 0 (pv 0)) ah))
 ·refine au ?_ ?_
  ·refine aJ (i:=2) ?_ ?_
   ·exact nd
   ·exact (cQ ah)
  ·refine au ?_ ?_
   ·refine d8 PassesOwn.never rfl ?_ (fU (i:=3) (by exact nd)) (aF 3) ?_
    ·exact (lP T.b_range (ae aj (ae (aL bh (kK (ag 0 (pv 0)) T.cl T.n_most) aj) ah)))
    ·refine dt 1 ?_;refine aA ?_;refine Ca (pv 2) ?_;exact (bG (N':=["choice", "number"]) (CompSc.fit (sc:=ak dN) (N:=["house", "choices", "found", "number"]) 0x62) 0x3 rfl (dZ (ag 1 (pv 1))) (aF 0) (a5 0x3) (fun _ _ _ _=>(fU (i:=0) 0x63)) (fun _ _ _ _=>dc) (fun _ _ _ _=>(by refine bY ?_; (exact (by refine ae ?_ ?_; (exact (iT 0x2)); (exact (ae (ag 1 (pv 1)) (ae (ag 0 (pv 0)) ah))))))))
   ·refine aA ?_;exact aT (ag 2 (pv 2))
theorem kU  (D:Df K mg "all_runs" fu ["house"])   : Has P w K mg base 1 "all_runs" 1 (fy C):=D.has fun f fd Fu=>lq (k:=0) Fu nv rfl fun LM A outer s H E hr=>by
 have hu:=dA hr;have nd:=nv.nd;refine au ?_ ?_
 ·refine aJ (i:=1) ?_ ?_
  ·exact nd
  ·exact (cQ ah)
 ·refine au ?_ ?_
  ·refine d8 PassesOwn.never rfl ?_ (fU (i:=2) (by exact nd)) (aF 2) ?_
   ·exact (l0 T.b_range (ae (kK (ag 0 (pv 0)) T.cl T.n_colours) ah))
   ·refine aA ?_;refine d8 PassesOwn.never rfl ?_ (fU (i:=3) (by exact nd)) (aF 3) ?_
    ·exact (lP T.b_range (ae aj (ae (aL bh (kK (ag 0 (pv 0)) T.cl T.n_most) aj) ah)))
    ·refine au ?_ ?_
     ·refine aJ (i:=4) ?_ ?_
      ·exact nd
      ·exact (aL bh (aL fV (kK (ag 0 (pv 0)) T.cl T.n_most) (ag 3 (pv 3))) aj)
     ·refine aA ?_;refine Ca (pv 1) ?_;exact (bG (N':=["size", "colour", "first"]) (CompSc.fit (sc:=ak fu) (N:=["house", "found", "colour", "first", "room"]) 0x62) 0x3 rfl (lP T.b_range (ae (je T.i_LEAST_SIZE) (ae (aL bh (ag 4 (pv 4)) aj) ah))) (aF 0) (a5 0x3) (fun _ _ _ _=>(fU (i:=0) 0x63)) (fun _ _ _ _=>dc) (fun _ _ _ _=>(by refine bY ?_; (exact (by refine ae ?_ ?_; (exact (iT 0x2)); (exact (by refine ae ?_ ?_; (exact (ag 1 (pv 1))); (exact (by refine ae ?_ ?_; (exact (ag 2 (pv 2))); (exact (by refine ae ?_ ?_; (exact (ag 0 (pv 0))); (exact ah))))))))))))
  ·refine aA ?_;exact aT (ag 1 (pv 1))
theorem su  (D:Df K mg "melds" lJ ["house"])  (iW:Has P w K mg base 2 "all_groups" 1 (dU C)) (kU:Has P w K mg base 1 "all_runs" 1 (fy C)):Has P w K mg base 3 "melds" 1 (lO C):=D.has fun f fd Fu=>lq (k:=2) Fu u6 rfl fun LM A outer s H E hr=>by
 have hu:=dA hr;have nd:=u6.nd;refine aA ?_;exact aT (aL bh (aN (iW.mono 0x3) hr (ae (ag 0 (pv 0)) ah)) (aN (kU.mono 0x3) hr (ae (ag 0 (pv 0)) ah)))
theorem tP  (D:Df K mg "total" j6 ["tiles"])   : Has P w K mg base 1 "total" 1 (l9):=D.has fun f fd Fu=>lq (k:=0) Fu vh rfl fun LM A outer s H E hr=>by
 have hu:=dA hr;have nd:=vh.nd;refine aA ?_;exact aT (aX (wK rfl) rfl T.b_sum wg (ae (bG (N':=["tile"]) (CompSc.fit (sc:=ak j6) (N:=["tiles"]) 0x62) 0x3 rfl (dZ (ag 0 (pv 0))) (aF 0) (a5 0x3) (fun _ _ _ _=>(fU (i:=0) 0x63)) (fun _ _ _ _=>dc) (fun _ _ _ _=>(aY (ag 0 (pv 0)) aj))) ah))
theorem eK  (D:Df K mg "lay_out" ik ["tiles", "jokers", "wanted"])   : Has P w K mg base 1 "lay_out" 3 (bT):=D.has fun f fd Fu=>lq (k:=0) Fu pH rfl fun LM A outer s H E hr=>by
 have hu:=dA hr;have nd:=pH.nd;refine au ?_ ?_
 ·refine aJ (i:=3) ?_ ?_
  ·exact nd
  ·exact (gh tG rfl T.b_list oj (ae (ag 0 (pv 0)) ah))
 ·refine au ?_ ?_
  ·refine d8 PassesOwn.never rfl ?_ (fU (i:=4) (by exact nd)) (aF 4) ?_
   ·exact (dZ (ag 2 (pv 2)))
   ·refine aA ?_;refine dY ?_ ?_ ?_
    ·exact (bJ (Fj hu) (ag 4 (pv 4)) (ag 3 (pv 3)))
    ·refine aA ?_;refine AZ hu (pv 3) ?_;exact (ag 4 (pv 4))
    ·exact cE
  ·refine au ?_ ?_
   ·refine aJ (i:=5) ?_ ?_
    ·exact nd
    ·exact (aL fV (aX eU rfl T.b_len eA (ae (ag 0 (pv 0)) ah)) (aX eU rfl T.b_len eA (ae (ag 3 (pv 3)) ah)))
   ·refine aA ?_;exact aT (DO (ae (ag 3 (pv 3)) (ae (aL fV (ag 1 (pv 1)) (aL fV (aX eU rfl T.b_len eA (ae (ag 2 (pv 2)) ah)) (ag 5 (pv 5)))) ah)))
theorem fx  (D:Df K mg "playable_melds" bO ["house", "hand", "jokers"])  (su:Has P w K mg base 3 "melds" 1 (lO C)) (k8:HasX P w K mg base 4 "tiles_of" 2 (cF C Lg)) (eK:Has P w K mg base 1 "lay_out" 3 (bT)):HasX P w K mg base 5 "playable_melds" 3 (cR C Lg):=D.hasX fun f fd Fu=>Jy (k:=4) Fu gN rfl fun LM A outer s H E hr=>by
 have hu:=dA hr;have nd:=gN.nd;refine au ?_ ?_
 ·refine sC (i:=3) (N':=["meld", "house"]) (CompSc.fit (sc:=ak bO) (N:=["house", "hand", "jokers", "pairs"]) 0x62) 0x3 rfl (by exact nd) (dZ (aN (su.mono 0x3) hr (ae (ag 0 (pv 0)) ah))) (aF 0) (a5 0x3) (fun _ _ _ _=>(fU (i:=0) 0x63)) (fun _ _ _ _=>dc) (fun _ _ _ _=>(bY (ae (ag 0 (pv 0)) (ae (by refine nZ (k8.mono 0x3) hr w9 ?_; exact (ae (ag 1 (pv 1)) (ae (ag 0 (pv 0)) ah))) ah))))
 ·refine dt 3 ?_;refine aA ?_;exact aT (bG (N':=["pair", "hand", "jokers"]) (CompSc.fit (sc:=ak bO) (N:=["house", "hand", "jokers", "pairs"]) 0x62) 0x3 rfl (dZ (ag 3 (pv 3))) (aF 0) (a5 0x3) (fun _ _ _ _=>(fU (i:=0) 0x63)) (fun _ _ _ _=>k7 (bJ uE (aY (vE (aN (eK.mono 0x3) hr (by refine ae ?_ ?_; (exact (ag 1 (pv 1))); (exact (ae (ag 2 (pv 2)) (ae (aY (ag 0 (pv 0)) aj) ah)))))) aj) aj)) (fun _ _ _ _=>(ag 0 (pv 0))))
theorem fA (D:Df K mg "tiles_by_least" cU ["playable"]):Has P w K mg base 1 "tiles_by_least" 1 (AD P w):=D.has fun f fd Fu=>by
 refine Fu.ok (k:=0) gS (fun vs H Q E h=>h.1) fun LM A outer s H vs Q E hr MW=>?_;have hu:=dA hr;have nd:=gS.nd;refine ⟨_,C9 (fi1:=hX (af 0)) (fi2:=hX (Fk (e2 bz (af 2) (eC (.int 1))) (e2 aB (eC (.int 2)) (eC (.int 1))))) (fp:=e2 bz (af 2) (eC (.int 1))) PassesOwn.never rfl ?_ (dZ (ag 0 (pv 0))) (fU (i:=2) (by exact nd)) (by intro _; rfl)
  (dZ (Ea (aY (ag 2 (pv 2)) aj) (aL bh (je T.i_MOST_JOKERS) aj))) (fU (i:=3) (by exact nd)) (G9 (ro PySem.F.plainAttrs_list PySem.F.slot_list_append PySem.F.type_list_append mI (IZ (HI hu) (pv 1) (pv 3) (Cj jy)) (iO (aY (E:=E0) (ag 2 (pv 2)) aj) jy))) (by intro _; rfl) (pv 1) (fun xs c d=>rfl) ?_ ?_,?_⟩
 ·exact AQ (i:=1) nd rfl (by first|exact Or.inl rfl|exact Or.inr rfl) EM
 ·intro a c m ts; rw [<-Jp]; rfl
 ·intro a c m ts; rfl
 ·obtain ⟨_,O,xs,x,dom,rx,e,q⟩:=MW;unfold AD at e;split at e
  ·rename_i ps;obtain ⟨LN,e1,e2⟩:=bu e;split at e2
   ·rename_i hl;cases e2;exact ⟨O,ps,LN,RS.start (N:=["playable", "by_least", "pair", "tile"]) dom rx,e1,hl,q⟩
   ·cases e2
  ·cases e
theorem GV {fM:PyData->Option Int} {UM:List PyData} (TT:Tt K CT) (fA:Has P w K mg base 1 "tiles_by_least" 1 (AD P w)) {f:Addr} {fd:FuncData} (Fu:Fun K "__init__" "Table.__init__" yY f fd):FnOk P w K mg base tK 2 f fd ["self", "playable"] (JM P w CT fM UM):=by
 refine Fu.ok (k:=1) H9 (fun vs H Q E h=>?_) fun LM A outer s H vs Q E hr MW=>⟨_,fP (sL (pv 0) (aN (E:=E0) fA hr (ae (ag 1 (pv 1)) ah)) rfl) (fE (sL (pv 0) (EK (f:=fM) (U:=UM)) rfl)),?_⟩
 ·obtain ⟨p,dx,v,O,xs,LN,rfl,_⟩:=h;rfl
 ·have hv:∃a b,vs=[a,b]:=by
   obtain ⟨p,dx,v,O,xs,LN,rfl,_⟩:=MW;exact ⟨_,_,rfl⟩
  obtain ⟨a,b,rfl⟩:=hv;refine zm (X:=(eY tK P w K mg base ["self", "playable"] "Table.__init__" (ak yY) f LM A outer s H E).nox) (C:=CT) (f:=fM) (U:=UM) TT.cl TT.n_by_least TT.n_known MW fun xs LN e hl=>?_;show bd (op (args [DV.d (.list xs)])) (fun ys=>if ys.length=1 then FU (AD P w ys) else none)=_;rw [show args [DV.d (.list xs)]=some [DV.d (.list xs)] from rfl];show FU (AD P w [DV.d (.list xs)])=_;show FU (bd (op (fX xs)) fun LN=>if LN.length<=1000 then rt (DV.fz (.dl P w (kL LN))) else none)=_;rw [e];show FU (if LN.length<=1000 then _ else none)=_;rw [if_pos hl]; rfl
theorem vD (TT:Tt K CT) (D:yo K CT "ways" "Table.ways" jD ["self", "tiles", "jokers"])   (eK:Has P w K mg base 1 "lay_out" 3 (bT)):HasM P w K mg base (k+11) CT "ways" 3 (pz P w CT):=D.has (yj 0x2 0x2) fun f fd Fu=>lq (k:=k+10) Fu xN rfl fun LM A outer s H E hr=>by
 have hu:=dA hr;have nd:=xN.nd;refine au ?_ ?_
 ·refine sC (i:=3) (N':=["wanted", "tiles", "jokers"]) (CompSc.fit (sc:=ak jD) (N:=["self", "tiles", "jokers", "after"]) 0x62) 0x3 rfl (by exact nd) (dZ (E5 (HI hu) TT.cl TT.n_by_least (ag 0 (pv 0)) (aY (ag 1 (pv 1)) aj) (cQ ah))) (aF 0) (a5 0x3) (fun _ _ _ _=>(fU (i:=0) 0x63)) (fun _ _ _ _=>dc) (fun _ _ _ _=>(aN (eK.mono 0x1) hr (by refine ae ?_ ?_; (exact (ag 1 (pv 1))); (exact (ae (ag 2 (pv 2)) (ae (ag 0 (pv 0)) ah))))))
 ·refine dt 3 ?_;refine aA ?_;exact aT (bG (N':=["way"]) (CompSc.fit (sc:=ak jD) (N:=["self", "tiles", "jokers", "after"]) 0x62) 0x3 rfl (dZ (ag 3 (pv 3))) (aF 0) (a5 0x3) (fun _ _ _ _=>(fU (i:=0) 0x63)) (fun _ _ _ _=>k7 (bJ uE (aY (ag 0 (pv 0)) aj) aj)) (fun _ _ _ _=>(ag 0 (pv 0))))
theorem bS {m_search_least:List DV->M DV} (TT:Tt K CT) (D:yo K CT "least_left" "Table.least_left" dP ["self", "tiles", "jokers"]) (gJ:HasM P w K mg base (k+10) CT "search_least" 3 m_search_least)   : HasM P w K mg base (k+11) CT "least_left" 3 (dg P w CT m_search_least):=D.has (yj 0x2 0x2) fun f fd Fu=>lq (k:=k+10) Fu kn rfl fun LM A outer s H E hr=>by
 have hu:=dA hr;have nd:=kn.nd;refine au ?_ ?_
 ·refine dY ?_ ?_ ?_
  ·exact (gv (HP (ag 1 (pv 1))))
  ·refine aA ?_;exact aT aj
  ·exact cE
 ·refine au ?_ ?_
  ·refine aJ (i:=3) ?_ ?_
   ·exact nd
   ·exact (bY (ae (gh uF rfl T.b_tuple oK (ae (ag 1 (pv 1)) ah)) (ae (ag 2 (pv 2)) ah)))
  ·refine EB (HI hu) TT.cl TT.n_known ?_ ?_ ?_ ?_ ?_ ?_ ?_ ?_
   ·exact pv 0
   ·exact pv 0
   ·exact pv 0
   ·exact pv 3
   ·exact pv 3
   ·exact pv 3
   ·exact (by refine iF gJ (hr.mono (K9 _)) TT.cl ?_ ?_; (exact (ag 0 (pv 0))); (exact (ae (ag 1 (pv 1)) (ae (ag 2 (pv 2)) ah))))
   ·intro _ _; rfl
variable {B':List DV->M DV}
theorem gJ {ju:List DV->M DV} (TT:Tt K CT) (D:yo K CT "search_least" "Table.search_least" cV ["self", "tiles", "jokers"]) (bS:HasM P w K mg base (k+10) CT "least_left" 3 B') (vD:HasM P w K mg base (k+10) CT "ways" 3 ju)   : HasM P w K mg base (k+11) CT "search_least" 3 (eW P w CT ju B'):=D.has (yj 0x2 0x2) fun f fd Fu=>lq (k:=k+10) Fu i8 rfl fun LM A outer s H E hr=>by
 have hu:=dA hr;have nd:=i8.nd;refine au ?_ ?_
 ·refine aJ (i:=3) ?_ ?_
  ·exact nd
  ·exact (cQ (ae (aL bh (aY (aY (ag 1 (pv 1)) aj) aj) (by refine iF bS (hr.mono (K9 _)) TT.cl ?_ ?_; (exact (ag 0 (pv 0))); (exact (ae (xc (ag 1 (pv 1)) aj) (ae (ag 2 (pv 2)) ah))))) ah))
 ·refine au ?_ ?_
  ·refine d8 PassesOwn.never rfl ?_ (qf rfl (d4 (fU (i:=4) (by exact nd)) (d4 (fU (i:=5) (by exact nd)) l6))) (qg (fG (aF 4) (fG (aF 5) pD))) ?_
   ·exact (dZ (by refine iF vD (hr.mono (K9 _)) TT.cl ?_ ?_; (exact (ag 0 (pv 0))); (exact (ae (ag 1 (pv 1)) (ae (ag 2 (pv 2)) ah)))))
   ·refine aA ?_;refine rW (pv 3) ?_;exact (by refine iF bS (hr.mono (K9 _)) TT.cl ?_ ?_; (exact (ag 0 (pv 0))); (exact (ae (ag 4 (pv 4)) (ae (ag 5 (pv 5)) ah))))
  ·refine aA ?_;exact aT (aX (EJ rfl) rfl T.b_min Cp (ae (ag 3 (pv 3)) ah))
theorem gH (D:Df K mg "first_laying" dH ["table", "playable", "hand", "jokers"]) (TT:Tt K CT) (bS:HasM P w K mg base 60 CT "least_left" 3 B')  (eK:Has P w K mg base 1 "lay_out" 3 (bT)):Has P w K mg base 61 "first_laying" 4 (dM P w CT B'):=D.has fun f fd Fu=>lq (k:=60) Fu jg rfl fun LM A outer s H E hr=>by
 have hu:=dA hr;have nd:=jg.nd;refine au ?_ ?_
 ·refine aJ (i:=4) ?_ ?_
  ·exact nd
  ·exact (by refine iF bS (hr.mono 0x3) TT.cl ?_ ?_; (exact (ag 0 (pv 0))); (exact (ae (ag 2 (pv 2)) (ae (ag 3 (pv 3)) ah))))
 ·refine au ?_ ?_
  ·refine aJ (i:=5) ?_ ?_
   ·exact nd
   ·exact (cQ ah)
  ·refine au ?_ ?_
   ·refine aJ (i:=6) ?_ ?_
    ·exact nd
    ·exact (ag 2 (pv 2))
   ·refine au ?_ ?_
    ·refine aJ (i:=7) ?_ ?_
     ·exact nd
     ·exact (ag 3 (pv 3))
    ·refine au ?_ ?_
     ·refine d8 PassesOwn.never rfl ?_ (qf rfl (d4 (fU (i:=8) (by exact nd)) (d4 (fU (i:=9) (by exact nd)) l6))) (qg (fG (aF 8) (fG (aF 9) pD))) ?_
      ·exact (dZ (ag 1 (pv 1)))
      ·refine au ?_ ?_
       ·refine aJ (i:=10) ?_ ?_
        ·exact nd
        ·exact (vE (aN (eK.mono 0x3) hr (by refine ae ?_ ?_; (exact (ag 6 (pv 6))); (exact (ae (ag 7 (pv 7)) (ae (ag 9 (pv 9)) ah))))))
       ·refine aA ?_;refine Bt 100 PassesOwn.never ?_ ?_
        ·exact (zf.pb (Br (bJ uE (aY (ag 10 (pv 10)) aj) aj) (yf (bJ (lZ hu) (by refine iF bS (hr.mono 0x3) TT.cl ?_ ?_; (exact (ag 0 (pv 0))); (exact (ae (aY (ag 10 (pv 10)) aj) (ae (aY (ag 10 (pv 10)) aj) ah)))) (ag 4 (pv 4))))))
        ·refine au ?_ ?_
         ·refine rW (pv 5) ?_;exact (ag 8 (pv 8))
         ·refine au ?_ ?_
          ·refine aJ (i:=6) ?_ ?_
           ·exact nd
           ·exact (aY (ag 10 (pv 10)) aj)
          ·refine au ?_ ?_
           ·refine aJ (i:=7) ?_ ?_
            ·exact nd
            ·exact (aY (ag 10 (pv 10)) aj)
           ·refine aA ?_;refine aJ (i:=10) ?_ ?_
            ·exact nd
            ·exact (vE (aN (eK.mono 0x3) hr (by refine ae ?_ ?_; (exact (ag 6 (pv 6))); (exact (ae (ag 7 (pv 7)) (ae (ag 9 (pv 9)) ah))))))
     ·refine aA ?_;exact aT (ag 5 (pv 5))
theorem wV (D:Df K mg "best" pk ["house", "hand", "jokers"]) (TT:Tt K CT) (Oe:∀fM UM,HsT P w K mg base "Table" CT 2 fM UM) (bS:HasM P w K mg base 60 CT "least_left" 3 B')  (iK:HasX P w K mg base 3 "check_hand" 3 (eS C Ld)) (fx:HasX P w K mg base 5 "playable_melds" 3 (cR C Lg)) (tP:Has P w K mg base 1 "total" 1 (l9)) (gH:Has P w K mg base 61 "first_laying" 4 (dM P w CT B')):HasX P w K mg base 62 "best" 3 (iV P w C CT Ld Lg B'):=by
 rw [vW];refine D.hasX fun f fd Fu=>KZ (fm:=fun (g:(PyData->Option Int)×List PyData)=>eT ["house", "hand", "jokers", "playable", "table", "greatest"] (sP P w C CT Ld Lg g.1 g.2 B')) HX fun g=>Jy (k:=61) Fu yt rfl fun LM A outer s H E hr=>?_;have hu:=dA hr;have nd:=yt.nd;refine au ?_ ?_
 ·refine Ff ?_;exact (by refine nZ (iK.mono 0x3) hr xt ?_; exact (by refine ae ?_ ?_; (exact (ag 0 (pv 0))); (exact (ae (ag 1 (pv 1)) (ae (ag 2 (pv 2)) ah)))))
 ·refine au ?_ ?_
  ·refine aJ (i:=3) ?_ ?_
   ·exact nd
   ·exact (by refine nZ (fx.mono 0x3) hr xt ?_; exact (by refine ae ?_ ?_; (exact (ag 0 (pv 0))); (exact (ae (ag 1 (pv 1)) (ae (ag 2 (pv 2)) ah)))))
  ·refine dt 3 ?_;refine au ?_ ?_
   ·refine aJ (i:=4) ?_ ?_
    ·exact nd
    ·exact (by refine Gc (Oe g.1 g.2) (hr.mono 0x3) ?_; exact (ae (ag 3 (pv 3)) ah))
   ·refine au ?_ ?_
    ·refine aJ (i:=5) ?_ ?_
     ·exact nd
     ·exact (aL fV (aN (tP.mono 0x3) hr (ae (ag 1 (pv 1)) ah)) (by refine iF bS (hr.mono 0x3) TT.cl ?_ ?_; (exact (ag 4 (pv 4))); (exact (ae (ag 1 (pv 1)) (ae (ag 2 (pv 2)) ah)))))
    ·refine dt 3 ?_;refine aA ?_;exact aT (Fb (ae (ag 5 (pv 5)) (ae (aN (gH.mono 0x3) hr (by refine ae ?_ ?_; (exact (ag 4 (pv 4))); (exact (by refine ae ?_ ?_; (exact (ag 3 (pv 3))); (exact (by refine ae ?_ ?_; (exact (ag 1 (pv 1))); (exact (by refine ae ?_ ?_; (exact (ag 2 (pv 2))); (exact ah))))))))) ah)))
theorem bH  (D:Df K mg "_law_cell_at" dD ["script", "k"])   : Has P w K mg base 1 "_law_cell_at" 2 (aG K):=D.has fun f fd Fu=>lq (k:=0) Fu i7 rfl fun LM A outer s H E hr=>by
 have hu:=dA hr;have nd:=i7.nd;refine au ?_ ?_
 ·refine dY ?_ ?_ ?_
  ·exact (bJ (kN hu) (ag 1 (pv 1)) (aX DL rfl T.b_len eA (ae (ag 0 (pv 0)) ah)))
  ·refine aA ?_;exact aT (F8 (ag 0 (pv 0)) (ag 1 (pv 1)))
  ·exact cE
 ·refine aA ?_;exact aT aj
theorem bI  (D:Df K mg "_law_mix" gA ["cell", "k", "many"])   : Has P w K mg base 1 "_law_mix" 3 (az):=D.has fun f fd Fu=>lq (k:=0) Fu ny rfl fun LM A outer s H E hr=>by
 have hu:=dA hr;have nd:=ny.nd;refine au ?_ ?_
 ·refine aJ (i:=3) ?_ ?_
  ·exact nd
  ·exact (by refine cQ ?_; (exact (by refine ae ?_ ?_; (exact (by exact aj)); (exact (by refine ae ?_ ?_; (exact (by exact aj)); (exact (by refine ae ?_ ?_; (exact (by exact aj)); (exact (by refine ae ?_ ?_; (exact (by exact aj)); (exact (by refine ae ?_ ?_; (exact (by exact aj)); (exact (by refine ae ?_ ?_; (exact (by exact aj)); (exact (by refine ae ?_ ?_; (exact (by exact aj)); (exact (by refine ae ?_ ?_; (exact (by exact aj)); (exact (by refine ae ?_ ?_; (exact (by exact aj)); (exact (by refine ae ?_ ?_; (exact (by exact aj)); (exact (by refine ae ?_ ?_; (exact (by exact aj)); (exact (by refine ae ?_ ?_; (exact (by exact aj)); (exact (by refine ae ?_ ?_; (exact (by exact aj)); (exact ah))))))))))))))))))))))))))))
 ·refine au ?_ ?_
  ·refine aJ (i:=4) ?_ ?_
   ·exact nd
   ·exact (aL bZ (aL bZ (aL jI (aL bZ (aL jt (ag 0 (pv 0)) (by exact aj)) (by exact aj)) (aY (ag 3 (pv 3)) (aL jt (ag 1 (pv 1)) aj))) (aL jI (by exact aj) (ag 1 (pv 1)))) (aL jI (by exact aj) (aL BK (ag 1 (pv 1)) aj)))
  ·refine au ?_ ?_
   ·refine aJ (i:=4) ?_ ?_
    ·exact nd
    ·exact (aL jt (ag 4 (pv 4)) (by exact aj))
   ·refine aA ?_;exact aT (aL jt (aL BK (aL jt (aL bZ (aL jI (ag 4 (pv 4)) (ag 4 (pv 4))) (aL jI (by exact aj) (ag 1 (pv 1)))) (by exact aj)) aj) (ag 2 (pv 2)))
theorem iN  (D:Df K mg "_law_whole" eV ["found"])   : Has P w K mg base 1 "_law_whole" 1 (gf):=D.has fun f fd Fu=>lq (k:=0) Fu ko rfl fun LM A outer s H E hr=>by
 have hu:=dA hr;have nd:=ko.nd;refine aA ?_;exact aT (mJ (yh 0x3 T.b_isinstance T.b_int B0 (ag 0 (pv 0))) (qe (G1 (yh 0x3 T.b_isinstance T.b_bool Ex (ag 0 (pv 0))))))
theorem fS  (D:Df K mg "_law_house_by" dh ["script"])  (bH:Has P w K mg base 1 "_law_cell_at" 2 (aG K)) (bI:Has P w K mg base 1 "_law_mix" 3 (az)):Has P w K mg base 2 "_law_house_by" 1 (dk K):=D.has fun f fd Fu=>lq (k:=1) Fu g9 rfl fun LM A outer s H E hr=>by
 have hu:=dA hr;have nd:=g9.nd;refine au ?_ ?_
 ·refine aJ (i:=1) ?_ ?_
  ·exact nd
  ·exact (aN (bH.mono 0x3) hr (ae (ag 0 (pv 0)) (ae aj ah)))
 ·refine aA ?_;exact aT (bY (ae (aL bZ aj (aN (bI.mono 0x3) hr (by refine ae ?_ ?_; (exact (ag 1 (pv 1))); (exact (ae aj (ae (aY (by refine cQ ?_; (exact (by refine ae ?_ ?_; (exact aj); (exact (by refine ae ?_ ?_; (exact aj); (exact (by refine ae ?_ ?_; (exact aj); (exact (by refine ae ?_ ?_; (exact aj); (exact ah)))))))))) (aN (bI.mono 0x3) hr (by refine ae ?_ ?_; (exact (ag 1 (pv 1))); (exact (ae aj (ae aj ah)))))) ah)))))) (ae (aL bZ aj (aN (bI.mono 0x3) hr (by refine ae ?_ ?_; (exact (ag 1 (pv 1))); (exact (ae aj (ae aj ah)))))) ah)))
theorem gr  (D:Df K mg "_law_trimmed" dC ["tiles", "limit"])   : Has P w K mg base 1 "_law_trimmed" 2 (cm):=D.has fun f fd Fu=>lq (k:=0) Fu ja rfl fun LM A outer s H E hr=>by
 have hu:=dA hr;have nd:=ja.nd;refine au ?_ ?_
 ·refine aJ (i:=2) ?_ ?_
  ·exact nd
  ·exact (cQ ah)
 ·refine au ?_ ?_
  ·refine d8 PassesOwn.never rfl ?_ (fU (i:=3) (by exact nd)) (aF 3) ?_
   ·exact (dZ (ag 0 (pv 0)))
   ·refine aA ?_;refine dY ?_ ?_ ?_
    ·exact (zf.pb (Br (bJ (kN hu) (uV hu (ag 2 (pv 2)) (ag 3 (pv 3))) aj) (yf (bJ (kN hu) (aX eU rfl T.b_len eA (ae (ag 2 (pv 2)) ah)) (ag 1 (pv 1))))))
    ·refine aA ?_;refine rW (pv 2) ?_;exact (ag 3 (pv 3))
    ·exact cE
  ·refine aA ?_;exact aT (aX (o9 hu) rfl T.b_sorted mS (ae (ag 2 (pv 2)) ah))
theorem gz  (D:Df K mg "_law_hand_by" ck ["script", "start", "most", "colours", "limit"])  (bH:Has P w K mg base 1 "_law_cell_at" 2 (aG K)) (bI:Has P w K mg base 1 "_law_mix" 3 (az)) (gr:Has P w K mg base 1 "_law_trimmed" 2 (cm)):Has P w K mg base 2 "_law_hand_by" 5 (dJ K):=D.has fun f fd Fu=>lq (k:=1) Fu jd rfl fun LM A outer s H E hr=>by
 have hu:=dA hr;have nd:=jd.nd;refine au ?_ ?_
 ·refine aJ (i:=5) ?_ ?_
  ·exact nd
  ·exact (cQ ah)
 ·refine au ?_ ?_
  ·refine d8 PassesOwn.never rfl ?_ (fU (i:=6) (by exact nd)) (aF 6) ?_
   ·exact (l0 T.b_range (ae aj ah))
   ·refine au ?_ ?_
    ·refine aJ (i:=7) ?_ ?_
     ·exact nd
     ·exact (aN (bH.mono 0x3) hr (ae (ag 0 (pv 0)) (ae (aL bZ (ag 1 (pv 1)) (ag 6 (pv 6))) ah)))
    ·refine au ?_ ?_
     ·refine Aa ?_ (qf rfl (d4 (fU (i:=8) (by exact nd)) (d4 (fU (i:=9) (by exact nd)) l6))) (qg (fG (aF 8) (fG (aF 9) pD)));exact (bY (ae (aL bZ aj (aN (bI.mono 0x3) hr (by refine ae ?_ ?_; (exact (ag 7 (pv 7))); (exact (ae aj (ae (ag 2 (pv 2)) ah)))))) (ae (aN (bI.mono 0x3) hr (by refine ae ?_ ?_; (exact (ag 7 (pv 7))); (exact (ae aj (ae (ag 3 (pv 3)) ah))))) ah)))
     ·refine au ?_ ?_
      ·refine aJ (i:=10) ?_ ?_
       ·exact nd
       ·exact (aL bZ aj (aN (bI.mono 0x3) hr (by refine ae ?_ ?_; (exact (ag 7 (pv 7))); (exact (ae aj (ae aj ah))))))
      ·refine au ?_ ?_
       ·refine dY ?_ ?_ ?_
        ·exact (bJ (lZ hu) (aN (bI.mono 0x3) hr (by refine ae ?_ ?_; (exact (ag 7 (pv 7))); (exact (ae aj (ae aj ah))))) aj)
        ·refine aA ?_;refine aJ (i:=5) ?_ ?_
         ·exact nd
         ·exact (aL bZ (ag 5 (pv 5)) (bG (N':=["x", "colour"]) (CompSc.fit (sc:=ak ck) (N:=["script", "start", "most", "colours", "limit", "tiles", "k", "cell", "number", "colour", "size"]) 0x62) 0x3 rfl (lP T.b_range (ae (ag 8 (pv 8)) (ae (aL bZ (aX (GO rfl) rfl T.b_min Cp (ae (ag 2 (pv 2)) (ae (aL fV (aL bZ (ag 8 (pv 8)) (ag 10 (pv 10))) aj) ah))) aj) ah))) (aF 0) (a5 0x3) (fun _ _ _ _=>(fU (i:=0) 0x63)) (fun _ _ _ _=>dc) (fun _ _ _ _=>(bY (ae (ag 0 (pv 0)) (ae (ag 1 (pv 1)) ah))))))
        ·refine aA ?_;refine aJ (i:=5) ?_ ?_
         ·exact nd
         ·exact (aL bZ (ag 5 (pv 5)) (bG (N':=["x", "number", "cell"]) (CompSc.fit (sc:=ak ck) (N:=["script", "start", "most", "colours", "limit", "tiles", "k", "cell", "number", "colour", "size"]) 0x62) 0x3 rfl (l0 T.b_range (ae (ag 3 (pv 3)) ah)) (aF 0) (a5 0x3) (fun _ _ _ _=>(fU (i:=0) 0x63)) (fun _ _ _ _=>k7 (bJ xU (aN (bI.mono 0x3) hr (by refine ae ?_ ?_; (exact (ag 2 (pv 2))); (exact (ae (aL bZ aj (ag 0 (pv 0))) (ae aj ah))))) aj)) (fun _ _ _ _=>(bY (ae (ag 1 (pv 1)) (ae (ag 0 (pv 0)) ah))))))
       ·refine aA ?_;refine dY ?_ ?_ ?_
        ·exact (bJ (lZ hu) (aN (bI.mono 0x3) hr (by refine ae ?_ ?_; (exact (ag 7 (pv 7))); (exact (ae aj (ae aj ah))))) aj)
        ·refine aA ?_;refine rW (pv 5) ?_;exact (bY (ae (aL bZ aj (aN (bI.mono 0x3) hr (by refine ae ?_ ?_; (exact (ag 7 (pv 7))); (exact (ae aj (ae (ag 2 (pv 2)) ah)))))) (ae (aN (bI.mono 0x3) hr (by refine ae ?_ ?_; (exact (ag 7 (pv 7))); (exact (ae aj (ae (ag 3 (pv 3)) ah))))) ah)))
        ·exact cE
  ·refine au ?_ ?_
   ·refine dY ?_ ?_ ?_
    ·exact (bJ (lZ hu) (aX eU rfl T.b_len eA (ae (ag 5 (pv 5)) ah)) aj)
    ·refine aA ?_;refine aJ (i:=5) ?_ ?_
     ·exact nd
     ·exact (cQ (ae (bY (ae aj (ae aj ah))) ah))
    ·exact cE
   ·refine au ?_ ?_
    ·refine dY ?_ ?_ ?_
     ·exact (bJ (lZ hu) (aL jt (aN (bH.mono 0x3) hr (ae (ag 0 (pv 0)) (ae (aL bZ (ag 1 (pv 1)) aj) ah))) aj) aj)
     ·refine aA ?_;exact aT (cQ ah)
     ·exact cE
    ·refine dt 5 ?_;refine aA ?_;exact aT (aN (gr.mono 0x3) hr (ae (ag 5 (pv 5)) (ae (aL bZ aj (aL jt (aN (bH.mono 0x3) hr (ae (ag 0 (pv 0)) (ae (aL bZ (ag 1 (pv 1)) aj) ah))) (ag 4 (pv 4)))) ah)))
theorem ft  (D:Df K mg "_law_jokers_by" cY ["script", "hand"])  (bH:Has P w K mg base 1 "_law_cell_at" 2 (aG K)):Has P w K mg base 2 "_law_jokers_by" 2 (cf K):=D.has fun f fd Fu=>lq (k:=1) Fu gQ rfl fun LM A outer s H E hr=>by
 have hu:=dA hr;have nd:=gQ.nd;refine au ?_ ?_
 ·refine aJ (i:=2) ?_ ?_
  ·exact nd
  ·exact (aN (bH.mono 0x3) hr (ae (ag 0 (pv 0)) (ae aj ah)))
 ·refine aA ?_;exact aT (aY (by refine cQ ?_; (exact (by refine ae ?_ ?_; (exact aj); (exact (by refine ae ?_ ?_; (exact aj); (exact (by refine ae ?_ ?_; (exact aj); (exact (by refine ae ?_ ?_; (exact (aY (cQ (ae aj (ae aj ah))) (gh Gy rfl T.b_int B0 (ae (ng (kN hu) (aX eU rfl T.b_len eA (ae (ag 1 (pv 1)) ah)) aj) ah)))); (exact ah)))))))))) (aL jt (ag 2 (pv 2)) aj))
theorem eR  (D:Df K mg "_law_tiles" de ["meld"])   : Has P w K mg base 1 "_law_tiles" 1 (a8):=D.has fun f fd Fu=>lq (k:=0) Fu kx rfl fun LM A outer s H E hr=>by
 have hu:=dA hr;have nd:=kx.nd;refine au ?_ ?_
 ·refine dY ?_ ?_ ?_
  ·exact (bJ (lZ hu) (aY (ag 0 (pv 0)) aj) (iT 0x2))
  ·refine aA ?_;exact aT (bG (N':=["k", "meld"]) (CompSc.fit (sc:=ak de) (N:=["meld"]) 0x62) 0x3 rfl (l0 T.b_range (ae (aY (ag 0 (pv 0)) aj) ah)) (aF 0) (a5 0x3) (fun _ _ _ _=>(fU (i:=0) 0x63)) (fun _ _ _ _=>dc) (fun _ _ _ _=>(bY (ae (aL bh (aY (ag 1 (pv 1)) aj) (ag 0 (pv 0))) (ae (aY (ag 1 (pv 1)) aj) ah)))))
  ·exact cE
 ·refine aA ?_;exact aT (bG (N':=["colour", "meld"]) (CompSc.fit (sc:=ak de) (N:=["meld"]) 0x62) 0x3 rfl (Ao (aY (ag 0 (pv 0)) aj)) (aF 0) (a5 0x3) (fun _ _ _ _=>(fU (i:=0) 0x63)) (fun _ _ _ _=>dc) (fun _ _ _ _=>(bY (ae (aY (ag 1 (pv 1)) aj) (ae (ag 0 (pv 0)) ah)))))
theorem iE  (D:Df K mg "_law_melds" cB ["most", "colours"])   : Has P w K mg base 1 "_law_melds" 2 (eX):=D.has fun f fd Fu=>lq (k:=0) Fu ku rfl fun LM A outer s H E hr=>by
 have hu:=dA hr;have nd:=ku.nd;refine au ?_ ?_
 ·refine aJ (i:=2) ?_ ?_
  ·exact nd
  ·exact (cQ ah)
 ·refine au ?_ ?_
  ·refine d8 PassesOwn.never rfl ?_ (fU (i:=3) (by exact nd)) (aF 3) ?_
   ·exact (l0 T.b_range (ae (ag 1 (pv 1)) ah))
   ·refine aA ?_;refine d8 PassesOwn.never rfl ?_ (fU (i:=4) (by exact nd)) (aF 4) ?_
    ·exact (lP T.b_range (ae aj (ae (aL bh (ag 0 (pv 0)) aj) ah)))
    ·refine aA ?_;refine aJ (i:=2) ?_ ?_
     ·exact nd
     ·exact (aL bh (ag 2 (pv 2)) (bG (N':=["last", "colour", "first"]) (CompSc.fit (sc:=ak cB) (N:=["most", "colours", "found", "colour", "first", "kinds", "number"]) 0x62) 0x3 rfl (lP T.b_range (ae (aL bh (ag 4 (pv 4)) aj) (ae (aL bh (ag 0 (pv 0)) aj) ah))) (aF 0) (a5 0x3) (fun _ _ _ _=>(fU (i:=0) 0x63)) (fun _ _ _ _=>dc) (fun _ _ _ _=>(by refine bY ?_; (exact (by refine ae ?_ ?_; (exact (iT 0x2)); (exact (by refine ae ?_ ?_; (exact (ag 1 (pv 1))); (exact (by refine ae ?_ ?_; (exact (ag 2 (pv 2))); (exact (by refine ae ?_ ?_; (exact (aL bh (aL fV (ag 0 (pv 0)) (ag 2 (pv 2))) aj)); (exact ah)))))))))))))
  ·refine au ?_ ?_
   ·refine aJ (i:=5) ?_ ?_
    ·exact nd
    ·exact (cQ (ae (cQ ah) ah))
   ·refine au ?_ ?_
    ·refine d8 PassesOwn.never rfl ?_ (fU (i:=3) (by exact nd)) (aF 3) ?_
     ·exact (l0 T.b_range (ae (ag 1 (pv 1)) ah))
     ·refine dt 5 ?_;refine aA ?_;refine aJ (i:=5) ?_ ?_
      ·exact nd
      ·exact (aL bh (ag 5 (pv 5)) (bG (N':=["kind", "colour"]) (CompSc.fit (sc:=ak cB) (N:=["most", "colours", "found", "colour", "first", "kinds", "number"]) 0x62) 0x3 rfl (dZ (ag 5 (pv 5))) (aF 0) (a5 0x3) (fun _ _ _ _=>(fU (i:=0) 0x63)) (fun _ _ _ _=>dc) (fun _ _ _ _=>(aL bh (ag 0 (pv 0)) (cQ (ae (ag 1 (pv 1)) ah))))))
    ·refine au ?_ ?_
     ·refine d8 PassesOwn.never rfl ?_ (fU (i:=6) (by exact nd)) (aF 6) ?_
      ·exact (lP T.b_range (ae aj (ae (aL bh (ag 0 (pv 0)) aj) ah)))
      ·refine dt 5 ?_;refine aA ?_;refine aJ (i:=2) ?_ ?_
       ·exact nd
       ·exact (aL bh (ag 2 (pv 2)) (bG (N':=["kind", "number"]) (CompSc.fit (sc:=ak cB) (N:=["most", "colours", "found", "colour", "first", "kinds", "number"]) 0x62) 0x3 rfl (dZ (ag 5 (pv 5))) (aF 0) (a5 0x3) (fun _ _ _ _=>(fU (i:=0) 0x63)) (fun _ _ _ _=>k7 (bJ xU (aX eU rfl T.b_len eA (ae (ag 0 (pv 0)) ah)) aj)) (fun _ _ _ _=>(by refine bY ?_; (exact (by refine ae ?_ ?_; (exact (iT 0x2)); (exact (ae (ag 1 (pv 1)) (ae (gh uF rfl T.b_tuple oK (ae (ag 0 (pv 0)) ah)) ah)))))))))
     ·refine aA ?_;exact aT (aX (pR hu) rfl T.b_sorted mS (ae (ag 2 (pv 2)) ah))
theorem dG  (D:Df K mg "_law_wanting" cX ["rest", "tiles"])   : Has P w K mg base 1 "_law_wanting" 2 (bL):=D.has fun f fd Fu=>lq (k:=0) Fu jc rfl fun LM A outer s H E hr=>by
 have hu:=dA hr;have nd:=jc.nd;refine aA ?_;exact aT (aX eU rfl T.b_len eA (ae (bG (N':=["tile", "rest"]) (CompSc.fit (sc:=ak cX) (N:=["rest", "tiles"]) 0x62) 0x3 rfl (dZ (ag 1 (pv 1))) (aF 0) (a5 0x3) (fun _ _ _ _=>(fU (i:=0) 0x63)) (fun _ _ _ _=>k7 (bJ (zS hu) (ag 0 (pv 0)) (ag 1 (pv 1)))) (fun _ _ _ _=>(ag 0 (pv 0)))) ah))
theorem gE  (D:Df K mg "_law_without" dE ["rest", "tiles"])   : Has P w K mg base 1 "_law_without" 2 (cg):=D.has fun f fd Fu=>lq (k:=0) Fu i6 rfl fun LM A outer s H E hr=>by
 have hu:=dA hr;have nd:=i6.nd;refine au ?_ ?_
 ·refine aJ (i:=2) ?_ ?_
  ·exact nd
  ·exact (gh tG rfl T.b_list oj (ae (ag 0 (pv 0)) ah))
 ·refine au ?_ ?_
  ·refine d8 PassesOwn.never rfl ?_ (fU (i:=3) (by exact nd)) (aF 3) ?_
   ·exact (dZ (ag 1 (pv 1)))
   ·refine aA ?_;refine dY ?_ ?_ ?_
    ·exact (bJ (Fj hu) (ag 3 (pv 3)) (ag 2 (pv 2)))
    ·refine aA ?_;refine AZ hu (pv 2) ?_;exact (ag 3 (pv 3))
    ·exact cE
  ·refine aA ?_;exact aT (ag 2 (pv 2))
theorem eM  {m__law_best:List DV->M DV} {k:Nat} (D:Df K mg "_law_best" c8 ["some", "rest", "jokers"])  (eR:Has P w K mg base 1 "_law_tiles" 1 (a8)) (dG:Has P w K mg base 1 "_law_wanting" 2 (bL)) (gE:Has P w K mg base 1 "_law_without" 2 (cg)) (eM:Has P w K mg base (k+10) "_law_best" 3 (m__law_best)):Has P w K mg base (k+11) "_law_best" 3 (fN m__law_best):=D.has fun f fd Fu=>lq (k:=k+10) Fu lE rfl fun LM A outer s H E hr=>by
 have hu:=dA hr;have nd:=lE.nd;refine au ?_ ?_
 ·refine aJ (i:=3) ?_ ?_
  ·exact nd
  ·exact (bY (ae aj (ae (cQ ah) ah)))
 ·refine au ?_ ?_
  ·refine DY PassesOwn.never rfl ?_ (qf rfl (d4 (fU (i:=4) (by exact nd)) (d4 (fU (i:=5) (by exact nd)) l6))) (qg (fG (aF 4) (fG (aF 5) pD))) ?_
   ·exact (Ji T.b_enumerate (ae (ag 0 (pv 0)) ah))
   ·refine au ?_ ?_
    ·refine aJ (i:=6) ?_ ?_
     ·exact nd
     ·exact (aN (eR.mono 0x1) hr (ae (ag 5 (pv 5)) ah))
    ·refine dt 6 ?_;refine au ?_ ?_
     ·refine aJ (i:=7) ?_ ?_
      ·exact nd
      ·exact (aN (dG.mono 0x1) hr (ae (ag 1 (pv 1)) (ae (ag 6 (pv 6)) ah)))
     ·refine aA ?_;refine dY ?_ ?_ ?_
      ·exact (bJ (fD hu) (ag 7 (pv 7)) (ag 2 (pv 2)))
      ·refine dt 6 ?_;refine au ?_ ?_
       ·refine aJ (i:=8) ?_ ?_
        ·exact nd
        ·exact (aN (gE.mono 0x1) hr (ae (ag 1 (pv 1)) (ae (ag 6 (pv 6)) ah)))
       ·refine dt 8 ?_;refine au ?_ ?_
        ·refine aJ (i:=9) ?_ ?_
         ·exact nd
         ·exact (aL fV (aX (wK rfl) rfl T.b_sum wg (ae (bG (N':=["tile"]) (CompSc.fit (sc:=ak c8) (N:=["some", "rest", "jokers", "found", "k", "meld", "tiles", "wanting", "behind", "gain", "more"]) 0x62) 0x3 rfl (dZ (ag 1 (pv 1))) (aF 0) (a5 0x3) (fun _ _ _ _=>(fU (i:=0) 0x63)) (fun _ _ _ _=>dc) (fun _ _ _ _=>(aY (ag 0 (pv 0)) aj))) ah)) (aX (wK rfl) rfl T.b_sum wg (ae (bG (N':=["tile"]) (CompSc.fit (sc:=ak c8) (N:=["some", "rest", "jokers", "found", "k", "meld", "tiles", "wanting", "behind", "gain", "more"]) 0x62) 0x3 rfl (dZ (ag 8 (pv 8))) (aF 0) (a5 0x3) (fun _ _ _ _=>(fU (i:=0) 0x63)) (fun _ _ _ _=>dc) (fun _ _ _ _=>(aY (ag 0 (pv 0)) aj))) ah)))
        ·refine dt 8 ?_;refine au ?_ ?_
         ·refine aJ (i:=10) ?_ ?_
          ·exact nd
          ·exact (aN eM hr (by refine ae ?_ ?_; (exact (xc (ag 0 (pv 0)) (ag 4 (pv 4)))); (exact (ae (ag 8 (pv 8)) (ae (aL fV (ag 2 (pv 2)) (ag 7 (pv 7))) ah)))))
         ·refine aA ?_;refine dY ?_ ?_ ?_
          ·exact (bJ xU (aL bh (ag 9 (pv 9)) (aY (ag 10 (pv 10)) aj)) (aY (ag 3 (pv 3)) aj))
          ·refine aA ?_;refine aJ (i:=3) ?_ ?_
           ·exact nd
           ·exact (bY (ae (aL bh (ag 9 (pv 9)) (aY (ag 10 (pv 10)) aj)) (ae (aL bh (cQ (ae (ag 5 (pv 5)) ah)) (aY (ag 10 (pv 10)) aj)) ah)))
          ·exact cE
      ·exact cE
  ·refine aA ?_;exact aT (ag 3 (pv 3))
theorem gu  {m__law_best:List DV->M DV} (D:Df K mg "_law_best_of" cO ["most", "colours", "hand", "jokers"])  (iE:Has P w K mg base 1 "_law_melds" 2 (eX)) (eR:Has P w K mg base 1 "_law_tiles" 1 (a8)) (dG:Has P w K mg base 1 "_law_wanting" 2 (bL)) (eM:Has P w K mg base 30 "_law_best" 3 (m__law_best)):Has P w K mg base 31 "_law_best_of" 4 (dB m__law_best):=D.has fun f fd Fu=>lq (k:=30) Fu jf rfl fun LM A outer s H E hr=>by
 have hu:=dA hr;have nd:=jf.nd;refine au ?_ ?_
 ·refine sC (i:=4) (N':=["meld", "jokers", "hand"]) (CompSc.fit (sc:=ak cO) (N:=["most", "colours", "hand", "jokers", "some"]) 0x62) 0x3 rfl (by exact nd) (dZ (aN (iE.mono 0x3) hr (ae (ag 0 (pv 0)) (ae (ag 1 (pv 1)) ah)))) (aF 0) (a5 0x3) (fun _ _ _ _=>(fU (i:=0) 0x63)) (fun _ _ _ _=>k7 (bJ (fD hu) (aN (dG.mono 0x3) hr (ae (ag 2 (pv 2)) (ae (aN (eR.mono 0x3) hr (ae (ag 0 (pv 0)) ah)) ah))) (ag 1 (pv 1)))) (fun _ _ _ _=>(ag 0 (pv 0)))
 ·refine dt 4 ?_;refine aA ?_;exact aT (aN (eM.mono 0x3) hr (by refine ae ?_ ?_; (exact (ag 4 (pv 4))); (exact (ae (ag 2 (pv 2)) (ae (ag 3 (pv 3)) ah)))))
theorem Gv {m__law_best:List DV->M DV} {f:Addr} {fd:FuncData} (Fu:Fun K "law" "law" pZ f fd)  (MV:Kz P w K mg base C Lf) (fS:Has P w K mg base 2 "_law_house_by" 1 (dk K)) (gz:Has P w K mg base 2 "_law_hand_by" 5 (dJ K)) (ft:Has P w K mg base 2 "_law_jokers_by" 2 (cf K)) (gu:Has P w K mg base 31 "_law_best_of" 4 (dB m__law_best)) (wV:HasX P w K mg base 62 "best" 3 (iV P w C CT Ld Lg B')) (iN:Has P w K mg base 1 "_law_whole" 1 (gf)):FnOk P w K mg base tK 63 f fd ["script"] (DP 1 (rD P w K C CT Ld Lf Lg B' m__law_best)):=lq (k:=62) Fu BS rfl fun LM A outer s H E hr=>by
 have hu:=dA hr;have nd:=BS.nd;refine au ?_ ?_
 ·refine Aa ?_ (qf rfl (d4 (fU (i:=1) (by exact nd)) (d4 (fU (i:=2) (by exact nd)) l6))) (qg (fG (aF 1) (fG (aF 2) pD)));exact (aN (fS.mono 0x3) hr (ae (ag 0 (pv 0)) ah))
 ·refine au ?_ ?_
  ·refine aJ (i:=3) ?_ ?_
   ·exact nd
   ·exact (by refine DA MV 0x2 (hr.mono 0x3) w9 ?_; exact (ae (ag 1 (pv 1)) (ae (ag 2 (pv 2)) ah)))
  ·refine au ?_ ?_
   ·refine aJ (i:=4) ?_ ?_
    ·exact nd
    ·exact (aN (gz.mono 0x3) hr (by refine ae ?_ ?_; (exact (ag 0 (pv 0))); (exact (by refine ae ?_ ?_; (exact aj); (exact (by refine ae ?_ ?_; (exact (ag 1 (pv 1))); (exact (by refine ae ?_ ?_; (exact (ag 2 (pv 2))); (exact (by refine ae ?_ ?_; (exact aj); (exact ah)))))))))))
   ·refine dt 4 ?_;refine au ?_ ?_
    ·refine aJ (i:=5) ?_ ?_
     ·exact nd
     ·exact (aN (ft.mono 0x3) hr (ae (ag 0 (pv 0)) (ae (ag 4 (pv 4)) ah)))
    ·refine dt 4 ?_;refine au ?_ ?_
     ·refine aJ (i:=6) ?_ ?_
      ·exact nd
      ·exact (aN (gu.mono 0x3) hr (by refine ae ?_ ?_; (exact (ag 1 (pv 1))); (exact (by refine ae ?_ ?_; (exact (ag 2 (pv 2))); (exact (by refine ae ?_ ?_; (exact (ag 4 (pv 4))); (exact (by refine ae ?_ ?_; (exact (ag 5 (pv 5))); (exact ah)))))))))
     ·refine au ?_ ?_
      ·refine d8 PassesOwn.never rfl ?_ (fU (i:=7) (by exact nd)) (aF 7) ?_
       ·exact (l0 T.b_range (ae aj ah))
       ·refine au ?_ ?_
        ·refine aJ (i:=8) ?_ ?_
         ·exact nd
         ·exact (gh tG rfl T.b_list oj (ae (ag 4 (pv 4)) ah))
        ·refine dt 8 ?_;refine au ?_ ?_
         ·refine aJ (i:=9) ?_ ?_
          ·exact nd
          ·exact (by refine nZ (wV.mono 0x3) hr w9 ?_; exact (by refine ae ?_ ?_; (exact (ag 3 (pv 3))); (exact (ae (ag 8 (pv 8)) (ae (ag 5 (pv 5)) ah)))))
         ·refine au ?_ ?_
          ·refine dY ?_ ?_ ?_
           ·exact (Bs 9 (zf.pb (rG (gv (k9 (yh 0x3 T.b_isinstance T.b_tuple oK (ag 9 (pv 9))))) (rG (bJ (xF hu) (aX eU rfl T.b_len eA (ae (ag 9 (pv 9)) ah)) aj) (rG (gv (k9 (aN (iN.mono 0x3) hr (ae (aY (ag 9 (pv 9)) aj) ah)))) (wO (bJ (xF hu) (ag 8 (pv 8)) (ag 4 (pv 4)))))))))
           ·refine aA ?_;exact aT pW
           ·exact cE
          ·refine au ?_ ?_
           ·refine dY ?_ ?_ ?_
            ·exact (Bs 9 (zf.pb (rG (gv (k9 (yh 0x3 T.b_isinstance T.b_list oj (aY (ag 9 (pv 9)) aj)))) (rG (bJ (xF hu) (aY (ag 9 (pv 9)) aj) (aY (ag 6 (pv 6)) aj)) (wO (bJ (xF hu) (aY (ag 9 (pv 9)) aj) (aY (ag 6 (pv 6)) aj)))))))
            ·refine aA ?_;exact aT pW
            ·exact cE
           ·refine aA ?_;refine CO (i:=9) (k:=1) (Bg wR (pv 9) AX (by intro _ _; rfl)) ?_;exact (by refine bY ?_; (exact (by refine ae ?_ ?_; (exact (iT 0x2)); (exact (by refine ae ?_ ?_; (exact aj); (exact (by refine ae ?_ ?_; (exact aj); (exact (by refine ae ?_ ?_; (exact aj); (exact ah))))))))))
      ·refine aA ?_;exact aT pW
end
end K4
namespace LW
open PySem PySem.Spec L2 L3
def Ga (xs:List Ml):Prop:=xs.Pairwise fun a b=>ll (lp (md b)) (lp (md a))=false
noncomputable instance (xs:List Ml):Decidable (Ga xs):=inferInstanceAs (Decidable (xs.Pairwise _))
theorem Ga.fl {l:By} {goal:Int}:∀(ys:List Ml) (r:List Tl) (j:Int),Ga ys->Ga (pV l goal ys r j)/\∀y∈pV l goal ys r j,y∈ys
 |[],_,_,_=>⟨List.Pairwise.nil,fun _ h=>nomatch h⟩
 |y::ys,r,j,a=>by
  obtain ⟨a1,a2⟩:=Lr.mp a;have ih:=Ga.fl (l:=l) (goal:=goal) ys (fR l goal (tl y) 100 r j).1 (fR l goal (tl y) 100 r j).2.1 a2;refine ⟨Ls.mpr ⟨List.pairwise_replicate.mpr (.inr (eG _)),ih.1,fun x hx z hz=>?_⟩,fun z hz=>?_⟩
  ·rw [(List.mem_replicate.mp hx).2];exact a1 z (ih.2 z hz)
  ·rcases Lk.mp hz with h|h
   ·rw [(List.mem_replicate.mp h).2]; exact K5
   ·exact K3 _ (ih.2 z h)
theorem Ga.ord {xs:List Ml} (a:Ga xs):GP (xs.map md)=true:=by
 unfold GP;rw [List.all_eq_true];intro k hk;have hk:=Ln.mp hk;rw [List.length_map] at hk;have h1:k<xs.length:=by lia
 have h2:k+1<xs.length:=by lia
 have:=List.pairwise_iff_getElem.mp a k (k+1) h1 h2 0x1;have e1:(xs.map md).getD (k+1) .none=md xs[k+1]:=by simp [List.getD,h2]
 have e2:(xs.map md).getD k .none=md xs[k]:=by simp [List.getD,h1]
 rw [e1,e2,this];rfl
theorem Bo {l:By} {goal:Int}:∀(ys:List Ml) (r:List Tl) (j:Int),(∀y∈ys,3<=(tl y).length)->0<=j->j<=2->(pV l goal ys r j).length<=r.length
 |[],_,_,_,_,_=>Lv _
 |y::ys,r,j,h,h0,h2=>by
  obtain ⟨w1,w2,w3,w4⟩:=qd (l:=l) (goal:=goal) (y:=tl y) (h y K5) 100 r j h0 h2;have ih:=Bo (l:=l) (goal:=goal) ys (fR l goal (tl y) 100 r j).1 (fR l goal (tl y) 100 r j).2.1 (fun z hz=>h z (K3 _ hz)) w2 0x1;show (List.replicate _ y++pV l goal ys _ _).length<=_;rw [List.length_append,List.length_replicate];lia
structure Lay (m c:Nat) (L:List Ml):Prop where
 ok:∀y∈L,n8 m c y/\Ax m c y=true
 len:L.length<=12
 ord:GP (L.map md)=true
theorem Lay.need {m c:Nat}:∀{L:List Ml},(∀y∈L,n8 m c y/\Ax m c y=true)->(L.map tl).flatten.length<=13*L.length
 |[],_=>by simp
 |y::L,h=>by
  have h1:=(h y K5).1.len;have h2:=Lay.need (L:=L) fun z hz=>h z (K3 _ hz);rw [List.map_cons,List.flatten_cons,List.length_append,List.length_cons];lia
theorem HF {fr:DS->M (List DV)} {δ:DS} {xs:List DV} {ds:List D} (h:fr δ=rt xs) (hd:dX xs=some ds) (hl:ds.length<=1000000):cw fr δ=rt (.new ds):=by
 unfold cw;rw [h,ay,hd,aP,ay,if_pos hl]
theorem IW (K:Li) (ns:List Int) (hand:List Tl):∃j:Int,cf K [.scr K ns,.d (.list (hand.map pr))]=rt (.d (.int j))/\0<=j/\j<=2:=by
 have h0:=Int.emod_nonneg (bw ns 1) (show (4:Int)≠0 by decide);have h4:=Int.emod_lt_of_pos (bw ns 1) (show (0:Int)<4 by decide);have e1:aR AO (aa (e2 hW (aR c6 (aa (af 1) ai)) (eC (.int 6))) ai) [some (.scr K ns),some (.d (.list (hand.map pr))),some (.d (.int (bw ns 1)))]=rt (.d (.int (if (hand.length:Int)<6 then 1 else 0))):=by
  refine (cC (bp ((av (x:=.d (.int (hand.length:Int))) (y:=.d (.int 6)) ((cC (bp (x:=.d (.list (hand.map pr))) rfl)).trans (hJ hand)) rfl).trans (fH _ _)))).trans ?_;by_cases h:(hand.length:Int)<6
  ·rw [if_pos h,Lz h]; rfl
  ·rw [if_neg h,Ly h]; rfl
 have e2':∃q:Int,1<=q/\q<=2/\e2 bz (cw (aa (eC (.int 1)) (aa (eC (.int 2)) ai))) (aR AO (aa (e2 hW (aR c6 (aa (af 1) ai)) (eC (.int 6))) ai)) [some (.scr K ns),some (.d (.list (hand.map pr))),some (.d (.int (bw ns 1)))]=rt (.d (.int q)):=by
  by_cases h:(hand.length:Int)<6
  ·rw [if_pos h] at e1;exact ⟨2,0x3,0x3,(av (x:=.new [.int 1,.int 2]) rfl e1).trans (oz rfl)⟩
  ·rw [if_neg h] at e1;exact ⟨1,0x3,0x3,(av (x:=.new [.int 1,.int 2]) rfl e1).trans (oz rfl)⟩
 obtain ⟨q,q1,q2,e2''⟩:=e2';have fin:∀j:Int,atI [PyData.int 0,.int 0,.int 1,.int q] (bw ns 1 % 4)=some (.int j)->cf K [.scr K ns,.d (.list (hand.map pr))]=rt (.d (.int j)):=fun j hj=>by
  unfold cf;refine d9 (x:=.d (.int j)) ?_;unfold ir;refine gM (δ':=[some (.scr K ns),some (.d (.list (hand.map pr))),some (.d (.int (bw ns 1)))]) (eE (x:=.d (.int (bw ns 1))) (xl (K:=K) (ns:=ns) rfl rfl 0x3) rfl rfl) (bD ?_);refine (av (x:=.new [.int 0,.int 0,.int 1,.int q]) (y:=.d (.int (bw ns 1 % 4))) ?_ ((av (x:=.d (.int (bw ns 1))) (y:=.d (.int 4)) rfl rfl).trans (fQ 0x3))).trans (oz hj);exact HF (Kl (x:=.d (.int 0)) (y:=.d (.int 0)) (z:=.d (.int 1)) (u:=.d (.int q)) rfl rfl rfl e2'') rfl 0x4
 have hc:bw ns 1 % 4=0\/bw ns 1 % 4=1\/bw ns 1 % 4=2\/bw ns 1 % 4=3:=by lia
 rcases hc with h|h|h|h
 ·exact ⟨0,fin 0 (by rw [h]; rfl),0x3,0x3⟩
 ·exact ⟨0,fin 0 (by rw [h]; rfl),0x3,0x3⟩
 ·exact ⟨1,fin 1 (by rw [h]; rfl),0x3,0x3⟩
 ·exact ⟨q,fin q (by rw [h]; rfl),0x1,0x1⟩
theorem s9 (L:List Ml):∀x∈L.map md,uB x:=fun x hx=>by
 obtain ⟨y,_,rfl⟩:=Ll.mp hx;exact vG y
theorem F7 {m c:Nat} (hm:m<=13) (h1:1<=c) (h4:c<=4) {h:List Tl} {j:Int} (H:Hand m c h j):(BL m c h j).length<=12:=Lw (Bo _ _ _ (fun y hy=>(nh hm h1 h4 (Ll.mpr ⟨y,(Lo.mp hy).1,rfl⟩)).1) H.j0 H.j2) H.len
end LW
namespace K4
open PySem PySem.Spec L2 L3 LW
theorem CM (neg:Bool) (L:List Ml):iG neg (.d (.list (L.map md))) (.d (.list (L.map md)))=rt (.d (.bool (!neg))):=by
 have h2:=IA (s9 L);have h1:PyData.eqv (.list (L.map md)) (.list (L.map md))=true:=by
  show PyData.eqvAll (L.map md) (L.map md)=true;exact (yv (s9 L) (s9 L)).mpr rfl
 show (if (PyData.list (L.map md)).depth<=60 then rt (DV.d (.bool (if neg=true then !PyData.eqv (.list (L.map md)) (.list (L.map md)) else PyData.eqv (.list (L.map md)) (.list (L.map md))))) else none)=_;rw [if_pos (by rw [PyData.depth]; lia),h1];cases neg <;> rfl
noncomputable def lδ (K:Li) (ns:List Int) (C:Addr) (m c:Nat) (h:List Tl) (j:Int) (x6 x7 x8 x9:Option DV):DS:=[some (.scr K ns),some (.d (.int (m:Int))),some (.d (.int (c:Int))),some (hs C m c),some (.d (.list (h.map pr))),some (.d (.int j)),x6,x7,x8,x9]
theorem Gb (P:Program) (w:World) (K:Li) (C CT Ld Lf Lg:Addr) (ns:List Int) (_:ns.length<=63):rD P w K C CT Ld Lf Lg (l8 P w CT 12) (lL 12) [.scr K ns]=rt (.d (.bool true)):=by
 obtain ⟨m',c',eh,g1,g2,g3,g4⟩:=EC K ns;obtain ⟨m,em⟩:=Int.eq_ofNat_of_zero_le (show 0<=m' by lia);obtain ⟨c,ec⟩:=Int.eq_ofNat_of_zero_le (show 0<=c' by lia);subst em ec;have hm:m<=13:=by lia
 have hc:c<=4:=by lia
 have hc1:1<=c:=by lia
 obtain ⟨h,e1,l1,t1,d1,o1⟩:=vA K ns m c 2 7 0x3 0x3 0x3 0x1 0x1 0x1 0x1;obtain ⟨j,ej,j0,j2⟩:=IW K ns h;have H:Hand m c h j:=⟨0x1,j0,j2,t1,d1,Ak o1⟩;have hbl:=F7 hm hc1 hc H;unfold rD;refine d9 (x:=.d (.bool true)) ?_;unfold Fy;refine gM (δ':=[some (.scr K ns),some (.d (.int (m:Int))),some (.d (.int (c:Int))),none,none,none,none,none,none,none]) (Fx (x:=.d (.tuple [.int (m:Int),.int (c:Int)])) (aV (bp rfl) rfl rfl eh) rfl rfl) ?_;refine gM (δ':=[some (.scr K ns),some (.d (.int (m:Int))),some (.d (.int (c:Int))),some (hs C m c),none,none,none,none,none,none]) (eE (x:=hs C m c) (KE rfl rfl g1 g2 g3 g4) rfl rfl) ?_;refine gM (δ':=[some (.scr K ns),some (.d (.int (m:Int))),some (.d (.int (c:Int))),some (hs C m c),some (.own (h.map pr)),none,none,none,none,none]) (eE (x:=.new (h.map pr)) (aV (n:=5) (K2 (x:=.scr K ns) (y:=.d (.int 2)) (z:=.d (.int (m:Int))) (u:=.d (.int (c:Int))) (v:=.d (.int 7)) rfl rfl rfl rfl rfl) rfl rfl e1) rfl rfl) ?_;show bE _ _ [some (.scr K ns),some (.d (.int (m:Int))),some (.d (.int (c:Int))),some (hs C m c),some (.d (.list (h.map pr))),none,none,none,none,none]=_;refine gM (δ':=lδ K ns C m c h j none none none none) (eE (x:=.d (.int j)) (aV (n:=2) (bQ (x:=.scr K ns) (y:=.d (.list (h.map pr))) rfl rfl) rfl rfl ej) rfl rfl) ?_;show bE _ _ (lδ K ns C m c h j none none none none)=_;refine gM (δ':=lδ K ns C m c h j (some (.d (gK (GW m c h j,BL m c h j)))) none none none) (eE (x:=.d (gK (GW m c h j,BL m c h j))) (aV (n:=4) (Kl (x:=.d (.int (m:Int))) (y:=.d (.int (c:Int))) (z:=.d (.list (h.map pr))) (u:=.d (.int j)) rfl rfl rfl rfl) rfl rfl (yN hm hc1 hc H)) rfl rfl) ?_;refine Kf (I:=fun δ=>∃x7 x8 x9,δ=lδ K ns C m c h j (some (.d (gK (GW m c h j,BL m c h j)))) x7 x8 x9) (xs:=dS 0 2) ((iQ (j:=2) (bp rfl) 0x3 0x3).trans rfl) ⟨none,none,none,rfl⟩ (fun x hx δ hI=>?_) fun δ hI=>bD rfl;obtain ⟨x7,x8,x9,rfl⟩:=hI;generalize hG:GW m c h j=G;generalize hL:BL m c h j=L at hbl ⊢;have ht1:e2 bz (af 9) (eC (.int 0)) (lδ K ns C m c h j (some (.d (gK (G,L)))) (some (.d x)) (some (.d (.list (h.map pr)))) (some (.d (gK (G,L)))))=rt (.d (.int G)):=(av (x:=.d (gK (G,L))) (y:=.d (.int 0)) rfl rfl).trans (aH rfl);have ht2:e2 bz (af 9) (eC (.int 1)) (lδ K ns C m c h j (some (.d (gK (G,L)))) (some (.d x)) (some (.d (.list (h.map pr)))) (some (.d (gK (G,L)))))=rt (.d (.list (L.map md))):=(av (x:=.d (gK (G,L))) (y:=.d (.int 1)) rfl rfl).trans (aH rfl);have ht3:e2 bz (af 6) (eC (.int 0)) (lδ K ns C m c h j (some (.d (gK (G,L)))) (some (.d x)) (some (.d (.list (h.map pr)))) (some (.d (gK (G,L)))))=rt (.d (.int G)):=(av (x:=.d (gK (G,L))) (y:=.d (.int 0)) rfl rfl).trans (aH rfl);have ht4:e2 bz (af 6) (eC (.int 1)) (lδ K ns C m c h j (some (.d (gK (G,L)))) (some (.d x)) (some (.d (.list (h.map pr)))) (some (.d (gK (G,L)))))=rt (.d (.list (L.map md))):=(av (x:=.d (gK (G,L))) (y:=.d (.int 1)) rfl rfl).trans (aH rfl);refine ⟨lδ K ns C m c h j (some (.d (gK (G,L)))) (some (.d x)) (some (.d (.list (h.map pr)))) (some (.tpo [.int G] (L.map md++[rn 0 1 3]) [])),?_,_,_,_,rfl⟩;refine gM (δ':=lδ K ns C m c h j (some (.d (gK (G,L)))) (some (.d x)) (some (.own (h.map pr))) x9) (eE (x:=.new (h.map pr)) ((cC (bp (x:=.d (.list (h.map pr))) rfl)).trans rfl) rfl rfl) ?_;change bE _ _ (lδ K ns C m c h j (some (.d (gK (G,L)))) (some (.d x)) (some (.d (.list (h.map pr)))) x9)=_;refine gM (δ':=lδ K ns C m c h j (some (.d (gK (G,L)))) (some (.d x)) (some (.d (.list (h.map pr)))) (some (.tpo [.int G] (L.map md) []))) (eE (x:=.nwt [.int G] (L.map md) []) (lU (n:=3) (gw (x:=hs C m c) (y:=.d (.list (h.map pr))) (z:=.d (.int j)) rfl rfl rfl) rfl rfl (by rw [<-hG,<-hL]; exact Ef hm hc1 hc H)) rfl rfl) ?_;refine gM (δ':=lδ K ns C m c h j (some (.d (gK (G,L)))) (some (.d x)) (some (.d (.list (h.map pr)))) (some (.tpo [.int G] (L.map md) []))) (FV ?_ rfl) ?_
 ·change yw _ _ (lδ K ns C m c h j (some (.d (gK (G,L)))) (some (.d x)) (some (.d (.list (h.map pr)))) (some (.d (gK (G,L)))))=_;refine uU (oG (bf (Ce (x:=.d (gK (G,L))) rfl rfl rfl)) rfl) (uU (bf ((av (x:=.d (.int 2)) (y:=.d (.int 2)) rfl rfl).trans rfl)) (uU (oG (bf (aV (bp ht1) rfl rfl (show gf [.d (.int G)]=rt (.d (.bool true)) from rfl))) rfl) (bf ((av (x:=.d (.list (h.map pr))) (y:=.d (.list (h.map pr))) rfl rfl).trans (by rw [Ek true h h _ rfl]; simp)))))
 refine gM (δ':=lδ K ns C m c h j (some (.d (gK (G,L)))) (some (.d x)) (some (.d (.list (h.map pr)))) (some (.tpo [.int G] (L.map md) []))) (FV ?_ rfl) ?_
 ·change yw _ _ (lδ K ns C m c h j (some (.d (gK (G,L)))) (some (.d x)) (some (.d (.list (h.map pr)))) (some (.d (gK (G,L)))))=_;refine uU (oG (bf (Ce ht2 rfl rfl)) rfl) (uU (bf ((av ht1 ht3).trans ?_)) (bf ((av ht2 ht4).trans (CM true L))));show rt (DV.d (.bool (!PyData.eqv (.int G) (.int G))))=_;rw [F5,Lz rfl];rfl
 ·unfold xp;show (if ([.int G]:List D).length=1 then bd (rt (DV.d (rn 0 1 3))) _ else none)=_;rw [if_pos (show ([.int G]:List D).length=1 from rfl),ay];show (if (L.map md).length<1000000 then _ else none)=_;rw [if_pos (by rw [List.length_map]; lia)];rfl
open PyProof.Rows hiding St
variable {n:Nat}
theorem u5:∀{us:List Value},us.length=n+1->∃a r,us=a::r/\r.length=n:=fun {us} h=>by cases us with|nil=>cases h|cons a r=>exact ⟨a,r,rfl,Nat.succ.inj h⟩
variable {us:List Value}
theorem oT (h:us.length=1):∃a0,us=[a0]:=by
 obtain ⟨a0,r,e,h1⟩:=u5 h;subst e;cases LH h1;exact ⟨a0,rfl⟩
theorem oQ (h:us.length=2):∃a0 a1,us=[a0,a1]:=by
 obtain ⟨a0,r,e,h1⟩:=u5 h;subst e;obtain ⟨a1,rfl⟩:=oT h1;exact ⟨a0,a1,rfl⟩
theorem nr (h:us.length=3):∃a0 a1 a2,us=[a0,a1,a2]:=by
 obtain ⟨a0,r,e,h1⟩:=u5 h;subst e;obtain ⟨a1,a2,rfl⟩:=oQ h1;exact ⟨a0,a1,a2,rfl⟩
theorem Dp (h:us.length=4):∃a0 a1 a2 a3,us=[a0,a1,a2,a3]:=by
 obtain ⟨a0,r,e,h1⟩:=u5 h;subst e;obtain ⟨a1,a2,a3,rfl⟩:=nr h1;exact ⟨a0,a1,a2,a3,rfl⟩
theorem Ki (h:us.length=5):∃a0 a1 a2 a3 a4,us=[a0,a1,a2,a3,a4]:=by
 obtain ⟨a0,r,e,h1⟩:=u5 h;subst e;obtain ⟨a1,a2,a3,a4,rfl⟩:=Dp h1;exact ⟨a0,a1,a2,a3,a4,rfl⟩
noncomputable abbrev rq:Stmt:=lR (jh 14) 0
theorem KU:FnScope ["self", "most", "colours"] ["self", "most", "colours"] (ak rq):=⟨rfl,rfl,rfl,0x2,rfl,0x2,0x2⟩
section
variable {P:Program} {w:World} {K:Li} {mg:Str->Option Value} {base:Heap}
theorem xq {H:Hp} {p:V} {m c:Int}:RS [] [] H [some p,some (.int m),some (.int c)] [none,some (.d (.int m)),some (.d (.int c))]:=by
 refine ⟨rfl,fun a ha=>(nomatch ha),fun a ha=>(nomatch ha),fun i x h=>?_,fun i j x y v w a h1 h2 h3 h4 o1 o2=>?_⟩
 ·match i with
  |0=>cases h
  |1=>cases h; exact ⟨_,rfl,fun _=>nofun,.int m⟩
  |2=>cases h; exact ⟨_,rfl,fun _=>nofun,.int c⟩
  |i+3=>simp at h
 ·match i with
  |0=>cases h1
  |1=>cases h1; exact o1.elim
  |2=>cases h1; exact o1.elim
  |i+3=>simp at h1
theorem DI {f C CB:Addr} {fd:FuncData} (Fu:Fun K "__init__" "House.__init__" rq f fd) (T:Tx K mg C) (O:Xc K mg "BadHouse" CB):FnOk P w K mg base (vP P w) 1 f fd ["self", "most", "colours"] (Kr C CB good "most" "colours"):=by
 obtain ⟨oc,od,kV,doc,pm,an,LM,ct,NB,rfl,lk,Ng⟩:=Fu.ex;refine Ad (k:=0) lk Ng KU (fun vs H Q E h=>?_) fun A outer s H vs Q E hr h=>?_
 ·obtain ⟨p,dx,m,c,rfl,_⟩:=h;rfl
 ·obtain ⟨p,dx,m,c,rfl,hp,k⟩:=h;have hu:=dA hr;have mk:yc (eY (vP P w) P w K mg base ["self", "most", "colours"] "House.__init__" (ak rq) f LM A outer s H E) E:=⟨hr.hd,fun pins σ H1 s1 h1 e cls vs I hm hE=>xh I hm hE⟩;refine ⟨_,fP (yB (gv (pN (E:=E0) (fD hu) (fD hu) (je T.i_LEAST_NUMBERS) (ag 1 (pv 1)) (je T.i_MOST_NUMBERS))) (fE (oO mk O)) ou)
   (fP (yB (gv (pN (E:=E0) (fD hu) (fD hu) (je T.i_LEAST_COLOURS) (ag 2 (pv 2)) (je T.i_MOST_COLOURS))) (fE (oO mk O)) ou)
   (fP (sL (pv 0) (pv 1) rfl) (fE (sL (pv 0) (pv 2) rfl)))),?_⟩
  refine ⟨[],[],_,.ok (!(decide (3<=m)&&decide (m<=13))),xq,?_,fun H1 s1=>?_⟩
  ·unfold gm zM;by_cases h3:3<=m <;> by_cases Oj:m<=13 <;> simp [eC,af,rt,bd,op,bR,h3,Oj]
  by_cases g1:(decide (3<=m)&&decide (m<=13))=true
  ·rw [g1];refine vL ?_;refine ⟨[],[],_,.ok (!(decide (1<=c)&&decide (c<=4))),xq,?_,fun H2 s2=>?_⟩
   ·unfold gm zM;by_cases h3:1<=c <;> by_cases Oj:c<=4 <;> simp [eC,af,rt,bd,op,bR,h3,Oj]
   have kk:=k H2 (s1.trans s2);by_cases g2:(decide (1<=c)&&decide (c<=4))=true
   ·rw [g2];refine vL ?_;rw [if_pos (by unfold good; rw [g1,g2]; rfl)] at kk;refine ⟨_,rfl,_,rfl,p,C,dx,[],rfl,s2 _ _ (s1 _ _ hp),T.cl,T.n_most,0x3,?_⟩;exact ⟨_,rfl,_,rfl,p,C,dx,_,rfl,aM,T.cl,T.n_colours,by show 1<1000; decide,kk⟩
   ·have g2':(decide (1<=c)&&decide (c<=4))=false:=by simpa using g2
    rw [g2'];refine wG ?_;rw [if_neg (by unfold good; rw [g1,g2']; simp)] at kk;exact kk
  ·have g1':(decide (3<=m)&&decide (m<=13))=false:=by simpa using g1
   rw [g1'];refine wG ?_;have kk:=k H1 s1;rw [if_neg (by unfold good; rw [g1']; simp)] at kk;exact kk
end
abbrev iZ (x y:Str) (st:Stmt) (ps:List Str):Prop:=∀(kV doc pm:Value) (an:Option Addr) (LM ct:Value) (us:List Value),us.length=ps.length->bindArgs (PySem.W.fnOf x y (eP st) (dv st) (ak st) .none kV doc pm an LM ct) ⟨us,[]⟩=pure (ps.zip us)
variable {K:Li} {h:Heap} {mg:Str->Option Value} {x:Str} {st:Stmt} {ps:List Str} {f:Addr}
theorem Jd {oc:Value} {od an:Option Addr} {NB:Array (Option Value)} {kV doc pm LM ct:Value} (X:K.In h) (G:h.Ns mainGlobals mg) (a:PySem.W.nsIn K mainGlobals x=some (some (.ref f)))
  (l:K.lookup f=some ⟨oc,od,.func (PySem.W.fnOf x x (eP st) (dv st) (ak st) .none kV doc pm an LM ct),NB⟩) (c:PySem.W.codeIn K LM x=true) (k:PySem.W.keepIn K (.ref f)=true)
  (hb:iZ x x st ps):Df K mg x st ps:=
 ⟨f,_,kX l c k,PySem.W.mg_of X G a,(kX l c k).binds hb⟩
theorem jO {i:Int} {t:Tok} (X:K.In h) (G:h.Ns mainGlobals mg) (a:PySem.W.nsIn K mainGlobals x=some (some (.int i t))):∃t,mg x=some (.int i t):=⟨t,PySem.W.mg_of X G a⟩
variable {C:Addr}
theorem Az (X:K.In h) (G:h.Ns mainGlobals mg) (a:PySem.W.nsIn K mainGlobals x=some (some (.ref C))) (e:PySem.W.excIn K C [.type "ValueError",.type "Exception",.type "BaseException",.type "object"] "ValueError.__new__" = true):Xc K mg x C:=⟨PySem.W.mg_of X G a,e⟩
theorem vT:iZ "is_tile" "is_tile" iw ["house", "tile"]:=fun _ _ _ _ _ _ us hl=>by obtain ⟨a0,a1,rfl⟩:=oQ hl; rfl
theorem pP:iZ "is_in_order" "is_in_order" dn ["row"]:=fun _ _ _ _ _ _ us hl=>by obtain ⟨a0,rfl⟩:=oT hl; rfl
theorem wQ:iZ "is_hand" "is_hand" gg ["house", "hand", "jokers"]:=fun _ _ _ _ _ _ us hl=>by obtain ⟨a0,a1,a2,rfl⟩:=nr hl; rfl
theorem qt:iZ "check_hand" "check_hand" eQ ["house", "hand", "jokers"]:=fun _ _ _ _ _ _ us hl=>by obtain ⟨a0,a1,a2,rfl⟩:=nr hl; rfl
theorem zB:iZ "is_run" "is_run" jB ["house", "colour", "first", "size"]:=fun _ _ _ _ _ _ us hl=>by obtain ⟨a0,a1,a2,a3,rfl⟩:=Dp hl; rfl
theorem ue:iZ "is_group" "is_group" eI ["house", "number", "colours"]:=fun _ _ _ _ _ _ us hl=>by obtain ⟨a0,a1,a2,rfl⟩:=nr hl; rfl
theorem wB:iZ "is_meld" "is_meld" iz ["house", "meld"]:=fun _ _ _ _ _ _ us hl=>by obtain ⟨a0,a1,rfl⟩:=oQ hl; rfl
theorem ux:iZ "tiles_of" "tiles_of" eB ["house", "meld"]:=fun _ _ _ _ _ _ us hl=>by obtain ⟨a0,a1,rfl⟩:=oQ hl; rfl
theorem lY:iZ "colour_choices" "colour_choices" bP ["house"]:=fun _ _ _ _ _ _ us hl=>by obtain ⟨a0,rfl⟩:=oT hl; rfl
theorem qJ:iZ "all_groups" "all_groups" dN ["house"]:=fun _ _ _ _ _ _ us hl=>by obtain ⟨a0,rfl⟩:=oT hl; rfl
theorem uO:iZ "all_runs" "all_runs" fu ["house"]:=fun _ _ _ _ _ _ us hl=>by obtain ⟨a0,rfl⟩:=oT hl; rfl
theorem Ay:iZ "melds" "melds" lJ ["house"]:=fun _ _ _ _ _ _ us hl=>by obtain ⟨a0,rfl⟩:=oT hl; rfl
theorem BR:iZ "total" "total" j6 ["tiles"]:=fun _ _ _ _ _ _ us hl=>by obtain ⟨a0,rfl⟩:=oT hl; rfl
theorem vH:iZ "lay_out" "lay_out" ik ["tiles", "jokers", "wanted"]:=fun _ _ _ _ _ _ us hl=>by obtain ⟨a0,a1,a2,rfl⟩:=nr hl; rfl
theorem ly:iZ "playable_melds" "playable_melds" bO ["house", "hand", "jokers"]:=fun _ _ _ _ _ _ us hl=>by obtain ⟨a0,a1,a2,rfl⟩:=nr hl; rfl
theorem nM:iZ "first_laying" "first_laying" dH ["table", "playable", "hand", "jokers"]:=fun _ _ _ _ _ _ us hl=>by obtain ⟨a0,a1,a2,a3,rfl⟩:=Dp hl; rfl
theorem CW:iZ "best" "best" pk ["house", "hand", "jokers"]:=fun _ _ _ _ _ _ us hl=>by obtain ⟨a0,a1,a2,rfl⟩:=nr hl; rfl
theorem nX:iZ "_law_cell_at" "_law_cell_at" dD ["script", "k"]:=fun _ _ _ _ _ _ us hl=>by obtain ⟨a0,a1,rfl⟩:=oQ hl; rfl
theorem u9:iZ "_law_mix" "_law_mix" gA ["cell", "k", "many"]:=fun _ _ _ _ _ _ us hl=>by obtain ⟨a0,a1,a2,rfl⟩:=nr hl; rfl
theorem qA:iZ "_law_whole" "_law_whole" eV ["found"]:=fun _ _ _ _ _ _ us hl=>by obtain ⟨a0,rfl⟩:=oT hl; rfl
theorem mE:iZ "_law_house_by" "_law_house_by" dh ["script"]:=fun _ _ _ _ _ _ us hl=>by obtain ⟨a0,rfl⟩:=oT hl; rfl
theorem nS:iZ "_law_trimmed" "_law_trimmed" dC ["tiles", "limit"]:=fun _ _ _ _ _ _ us hl=>by obtain ⟨a0,a1,rfl⟩:=oQ hl; rfl
theorem nQ:iZ "_law_hand_by" "_law_hand_by" ck ["script", "start", "most", "colours", "limit"]:=fun _ _ _ _ _ _ us hl=>by obtain ⟨a0,a1,a2,a3,a4,rfl⟩:=Ki hl; rfl
theorem lx:iZ "_law_jokers_by" "_law_jokers_by" cY ["script", "hand"]:=fun _ _ _ _ _ _ us hl=>by obtain ⟨a0,a1,rfl⟩:=oQ hl; rfl
theorem qw:iZ "_law_tiles" "_law_tiles" de ["meld"]:=fun _ _ _ _ _ _ us hl=>by obtain ⟨a0,rfl⟩:=oT hl; rfl
theorem qE:iZ "_law_melds" "_law_melds" cB ["most", "colours"]:=fun _ _ _ _ _ _ us hl=>by obtain ⟨a0,a1,rfl⟩:=oQ hl; rfl
theorem nO:iZ "_law_wanting" "_law_wanting" cX ["rest", "tiles"]:=fun _ _ _ _ _ _ us hl=>by obtain ⟨a0,a1,rfl⟩:=oQ hl; rfl
theorem nW:iZ "_law_without" "_law_without" dE ["rest", "tiles"]:=fun _ _ _ _ _ _ us hl=>by obtain ⟨a0,a1,rfl⟩:=oQ hl; rfl
theorem sU:iZ "_law_best" "_law_best" c8 ["some", "rest", "jokers"]:=fun _ _ _ _ _ _ us hl=>by obtain ⟨a0,a1,a2,rfl⟩:=nr hl; rfl
theorem nU:iZ "_law_best_of" "_law_best_of" cO ["most", "colours", "hand", "jokers"]:=fun _ _ _ _ _ _ us hl=>by obtain ⟨a0,a1,a2,a3,rfl⟩:=Dp hl; rfl
theorem lT:iZ "tiles_by_least" "tiles_by_least" cU ["playable"]:=fun _ _ _ _ _ _ us hl=>by obtain ⟨a0,rfl⟩:=oT hl; rfl
theorem C2:iZ "ways" "Table.ways" jD ["self", "tiles", "jokers"]:=fun _ _ _ _ _ _ us hl=>by obtain ⟨a0,a1,a2,rfl⟩:=nr hl; rfl
theorem qm:iZ "least_left" "Table.least_left" dP ["self", "tiles", "jokers"]:=fun _ _ _ _ _ _ us hl=>by obtain ⟨a0,a1,a2,rfl⟩:=nr hl; rfl
theorem nR:iZ "search_least" "Table.search_least" cV ["self", "tiles", "jokers"]:=fun _ _ _ _ _ _ us hl=>by obtain ⟨a0,a1,a2,rfl⟩:=nr hl; rfl
theorem FY:iZ "__init__" "Table.__init__" yY ["self", "playable"]:=fun _ _ _ _ _ _ us hl=>by obtain ⟨a0,a1,rfl⟩:=oQ hl; rfl
theorem yo.none {P:Program} {w:World} {K:Li} {mg:Str->Option Value} {base:Heap} {C:Addr} {m ql:Str} {st:Stmt} {ps:List Str} {k n:Nat} (D:yo K C m ql st ps) (no:∀v u:V,([("by_least",v),("known",u)]:List (Str×V)).lookup m=none):HasM P w K mg base k C m n (fun _=>none):=by
 obtain ⟨f,fd,Fu,hm,hb⟩:=D;exact ⟨⟨f,fd,ps,⟨fun vs H Q E ⟨_,_,_,_,_,_,e,_⟩=>(nomatch e),fun A outer s H args us vs Q E _ _ _ _ ⟨_,_,_,_,_,_,e,_⟩=>(nomatch e)⟩,hm,hb⟩,no⟩
theorem Cs {P:Program} {w:World} {K:Li} {mg:Str->Option Value} {base:Heap} {C CT Ld Lf Lg Lh:Addr} (T:Tx K mg C) (R:Rx K mg Ld Lf Lg Lh) (TT:Tt K CT) (Dw:yo K CT "ways" "Table.ways" jD ["self", "tiles", "jokers"]) (Dl:yo K CT "least_left" "Table.least_left" dP ["self", "tiles", "jokers"]) (Ds:yo K CT "search_least" "Table.search_least" cV ["self", "tiles", "jokers"]) (Nb:Has P w K mg base 1 "lay_out" 3 bT):∀n:Nat,HasM P w K mg base (2*n+11) CT "least_left" 3 (l8 P w CT n)
 |0=>(bS (k:=0) (m_search_least:=fun _=>none) T R TT Dl (Ds.none (yj 0x2 0x2))).imp (K9 _) fun _ _ h=>Ew h
 |n+1=>by
  have h1:=(Cs T R TT Dw Dl Ds Nb n).imp (k:=2*n+1+10) 0x1 fun _ _ h=>h;have hw:=(vD (k:=2*n) T R TT Dw Nb).imp (k:=2*n+1+10) 0x1 fun _ _ h=>h;have h2:=(gJ (k:=2*n+1) T R TT Ds h1 hw).imp (k:=2*n+2+10) 0x1 fun _ _ h=>DE h;exact (bS (k:=2*n+2) T R TT Dl h2).imp 0x1 fun _ _ h=>C4 h
variable {P:Program} {w:World} {base:Heap} {k:Nat}
theorem Has.imp' {fm fm':List DV->M DV} (F:Has P w K mg base k x n fm) (h:∀xs x,fm' xs=some (.ok x)->fm xs=some (.ok x)):Has P w K mg base k x n fm':=by
 obtain ⟨fn,fd,ps,h1,h2⟩:=F;exact ⟨fn,fd,ps,h1.imp fun vs H Q E ⟨a,O,xs,x,b,c,d,e⟩=>⟨a,O,xs,x,b,c,h xs x d,e⟩,h2⟩
theorem Df.none' (D:Df K mg x st ps):Has P w K mg base k x n (fun _=>none):=D.has fun f fd Fu=>⟨fun vs H Q E ⟨_,_,_,_,_,_,e,_⟩=>(nomatch e),fun A outer s H args us vs Q E _ _ _ _ ⟨_,_,_,_,_,_,e,_⟩=>(nomatch e)⟩
theorem AI {P:Program} {w:World} {K:Li} {mg:Str->Option Value} {base:Heap} {C Ld Lf Lg Lh:Addr} (T:Tx K mg C) (R:Rx K mg Ld Lf Lg Lh) (D:Df K mg "_law_best" c8 ["some", "rest", "jokers"]) (ht:Has P w K mg base 1 "_law_tiles" 1 a8) (hw:Has P w K mg base 1 "_law_wanting" 2 bL) (ho:Has P w K mg base 1 "_law_without" 2 cg):∀n:Nat,n<=12->Has P w K mg base (n+11) "_law_best" 3 (lL n)
 |0,_=>Has.imp' (eM (k:=0) (m__law_best:=fun _=>none) T R D ht hw ho (Df.none' D)) fun _ _ h=>CZ h
 |n+1,hn=>Has.imp' (eM (k:=n+1) T R D ht hw ho (AI T R D ht hw ho n 0x1)) fun _ _ h=>EY 0x1 h
theorem Eo:iZ "__init__" "House.__init__" rq ["self", "most", "colours"]:=fun _ _ _ _ _ _ us hl=>by obtain ⟨a0,a1,a2,rfl⟩:=nr hl; rfl
def xZ (K:Li):Sp:=fun vs H Q _=>∃(a:Addr) (ns:List Int),vs=[.ref a]/\eN K H a (ns.map V.int)/\ns.length<=63/\∀H',Q (.bl true) H'
theorem GK {Ld Lf Lg Lh fI:Addr} {fdI:FuncData} {CT fT:Addr} {fdT:FuncData} (TT:Tt K CT) (hTM:Mk K CT fT) (FT:Fun K "__init__" "Table.__init__" yY fT fdT) (hCT:mg "Table" = some (.ref CT)) (DM0:yo K CT "ways" "Table.ways" jD ["self", "tiles", "jokers"]) (DM1:yo K CT "least_left" "Table.least_left" dP ["self", "tiles", "jokers"]) (DM2:yo K CT "search_least" "Table.search_least" cV ["self", "tiles", "jokers"]) (T:Tx K mg C) (R:Rx K mg Ld Lf Lg Lh) (OB:Xc K mg "BadHouse" Lf) (hM:Mk K C fI) (FI:Fun K "__init__" "House.__init__" rq fI fdI) (hC:mg "House" = some (.ref C))
  (D0:Df K mg "is_tile" iw ["house", "tile"]) (D1:Df K mg "is_in_order" dn ["row"]) (D2:Df K mg "is_hand" gg ["house", "hand", "jokers"]) (D3:Df K mg "check_hand" eQ ["house", "hand", "jokers"]) (D4:Df K mg "is_run" jB ["house", "colour", "first", "size"]) (D5:Df K mg "is_group" eI ["house", "number", "colours"]) (D6:Df K mg "is_meld" iz ["house", "meld"]) (D7:Df K mg "tiles_of" eB ["house", "meld"]) (D8:Df K mg "colour_choices" bP ["house"]) (D9:Df K mg "all_groups" dN ["house"]) (D10:Df K mg "all_runs" fu ["house"]) (D11:Df K mg "melds" lJ ["house"]) (D12:Df K mg "total" j6 ["tiles"]) (D13:Df K mg "lay_out" ik ["tiles", "jokers", "wanted"]) (D14:Df K mg "playable_melds" bO ["house", "hand", "jokers"]) (D15:Df K mg "first_laying" dH ["table", "playable", "hand", "jokers"]) (D16:Df K mg "best" pk ["house", "hand", "jokers"]) (D17:Df K mg "_law_cell_at" dD ["script", "k"]) (D18:Df K mg "_law_mix" gA ["cell", "k", "many"]) (D19:Df K mg "_law_whole" eV ["found"]) (D20:Df K mg "_law_house_by" dh ["script"]) (D21:Df K mg "_law_trimmed" dC ["tiles", "limit"]) (D22:Df K mg "_law_hand_by" ck ["script", "start", "most", "colours", "limit"]) (D23:Df K mg "_law_jokers_by" cY ["script", "hand"]) (D24:Df K mg "_law_tiles" de ["meld"]) (D25:Df K mg "_law_melds" cB ["most", "colours"]) (D26:Df K mg "_law_wanting" cX ["rest", "tiles"]) (D27:Df K mg "_law_without" dE ["rest", "tiles"]) (D28:Df K mg "_law_best" c8 ["some", "rest", "jokers"]) (D29:Df K mg "_law_best_of" cO ["most", "colours", "hand", "jokers"]) (D31:Df K mg "tiles_by_least" cU ["playable"]) {fd:FuncData} (Fu:Fun K "law" "law" pZ f fd):FnOk P w K mg base tK 63 f fd ["script"] (DP 1 (rD P w K C CT Ld Lf Lg (l8 P w CT 12) (lL 12))):=by
 have MV:Kz P w K mg base C Lf:=⟨⟨fI,fdI,_,hM,DI FI T OB,FI.binds Eo,hC⟩⟩;have h0:=eJ (P:=P) (w:=w) (base:=base) T R D0;have h1:=gW (P:=P) (w:=w) (base:=base) T R D1;have h2:=mV (P:=P) (w:=w) (base:=base) T R D2  h0 h1;have h3:=iK (P:=P) (w:=w) (base:=base) T R D3  h2;have h4:=o6 (P:=P) (w:=w) (base:=base) T R D4  h0;have h5:=kR (P:=P) (w:=w) (base:=base) T R D5  h0;have h6:=mM (P:=P) (w:=w) (base:=base) T R D6  h4 h5;have h7:=k8 (P:=P) (w:=w) (base:=base) T R D7  h6;have h8:=fB (P:=P) (w:=w) (base:=base) T R D8;have h9:=iW (P:=P) (w:=w) (base:=base) T R D9  h8;have h10:=kU (P:=P) (w:=w) (base:=base) T R D10;have h11:=su (P:=P) (w:=w) (base:=base) T R D11  h9 h10;have h12:=tP (P:=P) (w:=w) (base:=base) T R D12;have Oj:=eK (P:=P) (w:=w) (base:=base) T R D13;have h14:=fx (P:=P) (w:=w) (base:=base) T R D14  h11 h7 Oj;have hT0:=fA (P:=P) (w:=w) (base:=base) (Ld:=Ld) (Lf:=Lf) (Lg:=Lg) (Lh:=Lh) T R D31;have hTab:∀fM UM,HsT P w K mg base "Table" CT 2 fM UM:=fun fM UM=>⟨⟨fT,fdT,_,hTM,GV T R TT hT0 FT,FT.binds FY,hCT⟩⟩;have Mb:=(Cs (P:=P) (w:=w) (base:=base) T R TT DM0 DM1 DM2 Oj 12).imp (k:=60) 0x3 fun _ _ h=>h;have h15:=gH (P:=P) (w:=w) (base:=base) T R D15 TT Mb Oj;have h16:=wV (P:=P) (w:=w) (base:=base) T R D16 TT hTab Mb h3 h14 h12 h15;have h17:=bH (P:=P) (w:=w) (base:=base) T R D17;have h18:=bI (P:=P) (w:=w) (base:=base) T R D18;have h19:=iN (P:=P) (w:=w) (base:=base) T R D19;have h20:=fS (P:=P) (w:=w) (base:=base) T R D20  h17 h18;have h21:=gr (P:=P) (w:=w) (base:=base) T R D21;have h22:=gz (P:=P) (w:=w) (base:=base) T R D22  h17 h18 h21;have h23:=ft (P:=P) (w:=w) (base:=base) T R D23  h17;have h24:=eR (P:=P) (w:=w) (base:=base) T R D24;have h25:=iE (P:=P) (w:=w) (base:=base) T R D25;have h26:=dG (P:=P) (w:=w) (base:=base) T R D26;have h27:=gE (P:=P) (w:=w) (base:=base) T R D27;have h28:=(AI (P:=P) (w:=w) (base:=base) T R D28 h24 h26 h27 12 (K9 _)).mono (show 12+11<=30 by decide);have h29:=gu (P:=P) (w:=w) (base:=base) T R D29  h25 h24 h26 h28;exact Gv T R Fu MV h20 h22 h23 h29 h16 h19
theorem GQ {C CT Ld Lf Lg Lh:Addr} {fd:FuncData} (Gb:∀ns:List Int,ns.length<=63->rD P w K C CT Ld Lf Lg (l8 P w CT 12) (lL 12) [.scr K ns]=rt (.d (.bool true))) (F:FnOk P w K mg base tK k f fd ps (DP 1 (rD P w K C CT Ld Lf Lg (l8 P w CT 12) (lL 12)))):FnOk P w K mg base tK k f fd ps (xZ K):=
 F.imp fun vs H Q E ⟨a,ns,ev,hS,hl,hq⟩=>by
  subst ev;refine ⟨rfl,[],[.scr K ns],_,fun a ha=>(nomatch ha),.cons ⟨a,rfl,hS.imp (fun z=>⟨nofun,z⟩) fun z=>z⟩ .nil,Gb ns hl,fun v H' _ rv=>?_⟩;cases rv;exact hq H'
abbrev Dk (K:Li) (x:Str) (st:Stmt):Prop:=∃(f:Addr) (o:Value) (d:Option Addr) (v e p:Value) (n:Option Addr) (m t:Value) (s:Array (Option Value)),PySem.W.nsIn K mainGlobals x=some (some (.ref f))/\K.lookup f=some ⟨o,d,.func (PySem.W.fnOf x x (eP st) (dv st) (ak st) .none v e p n m t),s⟩/\PySem.W.codeIn K m x=true/\PySem.W.keepIn K (.ref f)=true
abbrev zK (K:Li) (C:Addr) (x y:Str) (st:Stmt):Prop:=∃(f:Addr) (o:Value) (d:Option Addr) (v e p:Value) (n:Option Addr) (m t:Value) (s:Array (Option Value)),PySem.W.findIn K (.ref C) x=some (some (.ref f))/\PySem.W.isFn K (.ref f)=true/\K.lookup f=some ⟨o,d,.func (PySem.W.fnOf x y (eP st) (dv st) (ak st) .none v e p n m t),s⟩/\PySem.W.codeIn K m y=true/\PySem.W.keepIn K (.ref f)=true
theorem Dk.mk {o v e p m t:Value} {d n:Option Addr} {s:Array (Option Value)} (a:PySem.W.nsIn K mainGlobals x=some (some (.ref f))) (l:K.lookup f=some ⟨o,d,.func (PySem.W.fnOf x x (eP st) (dv st) (ak st) .none v e p n m t),s⟩) (c:PySem.W.codeIn K m x=true) (k:PySem.W.keepIn K (.ref f)=true):Dk K x st:=⟨f,o,d,v,e,p,n,m,t,s,a,l,c,k⟩
theorem zK.mk {y:Str} {o v e p m t:Value} {d n:Option Addr} {s:Array (Option Value)} (a:PySem.W.findIn K (.ref C) x=some (some (.ref f))) (i:PySem.W.isFn K (.ref f)=true) (l:K.lookup f=some ⟨o,d,.func (PySem.W.fnOf x y (eP st) (dv st) (ak st) .none v e p n m t),s⟩) (c:PySem.W.codeIn K m y=true) (k:PySem.W.keepIn K (.ref f)=true):zK K C x y st:=⟨f,o,d,v,e,p,n,m,t,s,a,i,l,c,k⟩
theorem Dk.df (X:K.In h) (G:h.Ns mainGlobals mg) (b:iZ x x st ps) (D:Dk K x st):Df K mg x st ps:=by
 obtain ⟨f,_,_,_,_,_,_,_,_,_,a,l,c,k⟩:=D;exact Jd X G a l c k b
theorem zK.df {y:Str} (b:iZ x y st ps) (D:zK K C x y st):yo K C x y st ps:=by
 obtain ⟨f,_,_,_,_,_,_,_,_,_,a,i,l,c,k⟩:=D;exact ⟨f,_,kX l c k,⟨a,i,k⟩,(kX l c k).binds b⟩
local macro_rules|`($k <<< $x <<< $v)=>`(PySem.W.nsIn $k mainGlobals $x=some $v)
set_option maxHeartbeats 3000000 in
theorem all_mk {l:PySem.W.OpenLaw} {fa Ld Lf Lg Lh CT:Addr} {Mo Mz Mp Mu MU MP ME MM:Tok} (X:K.In h) (G:h.Ns mainGlobals mg) (hfa:mg "law" = some (.ref fa))
  (A0:Dk K "is_tile" iw)
  (A1:Dk K "is_in_order" dn)
  (A2:Dk K "is_hand" gg)
  (A3:Dk K "check_hand" eQ)
  (A4:Dk K "is_run" jB)
  (A5:Dk K "is_group" eI)
  (A6:Dk K "is_meld" iz)
  (A7:Dk K "tiles_of" eB)
  (A8:Dk K "colour_choices" bP)
  (A9:Dk K "all_groups" dN)
  (A10:Dk K "all_runs" fu)
  (A11:Dk K "melds" lJ)
  (A12:Dk K "total" j6)
  (A13:Dk K "lay_out" ik)
  (A14:Dk K "playable_melds" bO)
  (A15:Dk K "first_laying" dH)
  (A16:Dk K "best" pk)
  (A17:Dk K "_law_cell_at" dD)
  (A18:Dk K "_law_mix" gA)
  (A19:Dk K "_law_whole" eV)
  (A20:Dk K "_law_house_by" dh)
  (A21:Dk K "_law_trimmed" dC)
  (A22:Dk K "_law_hand_by" ck)
  (A23:Dk K "_law_jokers_by" cY)
  (A24:Dk K "_law_tiles" de)
  (A25:Dk K "_law_melds" cB)
  (A26:Dk K "_law_wanting" cX)
  (A27:Dk K "_law_without" dE)
  (A28:Dk K "_law_best" c8)
  (A29:Dk K "_law_best_of" cO)
  (A30:Dk K "law" pZ)
  (A31:Dk K "tiles_by_least" cU)
  (aCT:PySem.W.nsIn K mainGlobals "Table" = some (some (.ref CT)))
  (aM0:zK K CT "ways" "Table.ways" jD)
  (aM1:zK K CT "least_left" "Table.least_left" dP)
  (aM2:zK K CT "search_least" "Table.search_least" cV)
  (aTI:zK K CT "__init__" "Table.__init__" yY)
  (pgT:PySem.W.plainGet K CT Str.empty=true)
  (hdT:PySem.W.hasDictIn K CT=true)
  (poT:PySem.W.plainOver K CT=true)
  (saT:PySem.W.findIn K (.ref CT) "__setattr__" = some (some (.builtin "object.__setattr__")))
  (mkT_:PySem.W.makesIn K CT=true)
  (kcT:PySem.W.keepIn K (.ref CT)=true)
  (M0:PySem.W.findIn K (.ref CT) "by_least" = some none)
  (NK:PySem.W.findIn K (.ref CT) "known" = some none)
  (aC:PySem.W.nsIn K mainGlobals "House" = some (some (.ref C)))
  (aI:zK K C "__init__" "House.__init__" rq)
  (pg:PySem.W.plainGet K C Str.empty=true)
  (hd:PySem.W.hasDictIn K C=true)
  (po:PySem.W.plainOver K C=true)
  (sa:PySem.W.findIn K (.ref C) "__setattr__" = some (some (.builtin "object.__setattr__")))
  (mk:PySem.W.makesIn K C=true)
  (kc:PySem.W.keepIn K (.ref C)=true)
  (n_colours:PySem.W.findIn K (.ref C) "colours" = some none)
  (n_most:PySem.W.findIn K (.ref C) "most" = some none)
  (i_LEAST_NUMBERS:K <<< "LEAST_NUMBERS" <<< (some (.int 3 Mo)))
  (i_MOST_NUMBERS:K <<< "MOST_NUMBERS" <<< (some (.int 13 Mz)))
  (i_LEAST_COLOURS:K <<< "LEAST_COLOURS" <<< (some (.int 1 Mp)))
  (i_MOST_COLOURS:K <<< "MOST_COLOURS" <<< (some (.int 4 Mu)))
  (i_MOST_TILES:K <<< "MOST_TILES" <<< (some (.int 12 MU)))
  (i_MOST_ALIKE:K <<< "MOST_ALIKE" <<< (some (.int 2 MP)))
  (i_MOST_JOKERS:K <<< "MOST_JOKERS" <<< (some (.int 2 ME)))
  (i_LEAST_SIZE:K <<< "LEAST_SIZE" <<< (some (.int 3 MM)))
  (b_all:K <<< "all" <<< none)
  (b_bool:K <<< "bool" <<< none)
  (b_enumerate:K <<< "enumerate" <<< none)
  (b_int:K <<< "int" <<< none)
  (b_isinstance:K <<< "isinstance" <<< none)
  (b_len:K <<< "len" <<< none)
  (b_list:K <<< "list" <<< none)
  (b_min:K <<< "min" <<< none)
  (b_range:K <<< "range" <<< none)
  (b_sorted:K <<< "sorted" <<< none)
  (b_sum:K <<< "sum" <<< none)
  (b_tuple:K <<< "tuple" <<< none)
  (M4:K <<< "BadHand" <<< (some (.ref Ld)))
  (MO:K <<< "BadHouse" <<< (some (.ref Lf)))
  (MD:K <<< "BadLaying" <<< (some (.ref Lg)))
  (NY:K <<< "MeldError" <<< (some (.ref Lh)))
  (MQ:PySem.W.excIn K Lf [.type "ValueError",.type "Exception",.type "BaseException",.type "object"] "ValueError.__new__" = true)
  (M1:PySem.W.excIn K Ld [.type "ValueError",.type "Exception",.type "BaseException",.type "object"] "ValueError.__new__" = true)
  (MB:PySem.W.excIn K Lg [.type "ValueError",.type "Exception",.type "BaseException",.type "object"] "ValueError.__new__" = true) :
  ∃fd:FuncData,(∀(s:Shared) (v:Value),BindsTo s fd ⟨[v],[]⟩ [("script",v)])/\∀base:Heap,K.In base->base.Ns mainGlobals mg->FnOk l.prog w K mg base tK 63 fa fd ["script"] (xZ K):=by
 obtain ⟨f,_,_,v,e,p,n,m,t,_,a,l',cc,kk⟩:=A30;have ee:=hfa.symm.trans (PySem.W.mg_of X G a);cases ee;obtain ⟨fI,_,_,_,_,_,_,_,_,_,aI,iI,lI,cI,kI⟩:=aI;have T:Tx K mg C:=⟨⟨pg,hd,po,sa⟩,n_colours,n_most,jO X G i_LEAST_NUMBERS,jO X G i_MOST_NUMBERS,jO X G i_LEAST_COLOURS,jO X G i_MOST_COLOURS,jO X G i_MOST_TILES,jO X G i_MOST_ALIKE,jO X G i_MOST_JOKERS,jO X G i_LEAST_SIZE,PySem.W.mg_none_of X G b_all,PySem.W.mg_none_of X G b_bool,PySem.W.mg_none_of X G b_enumerate,PySem.W.mg_none_of X G b_int,PySem.W.mg_none_of X G b_isinstance,PySem.W.mg_none_of X G b_len,PySem.W.mg_none_of X G b_list,PySem.W.mg_none_of X G b_min,PySem.W.mg_none_of X G b_range,PySem.W.mg_none_of X G b_sorted,PySem.W.mg_none_of X G b_sum,PySem.W.mg_none_of X G b_tuple⟩;have R:Rx K mg Ld Lf Lg Lh:=⟨Az X G M4 M1,Az X G MD MB⟩;refine ⟨PySem.W.fnOf "law" "law" (eP pZ) (dv pZ) (ak pZ) .none v e p n m t,fun s v=>.of_eq rfl,fun base kb nb=>?_⟩;refine GQ (P:=l.prog) (w:=w) (C:=C) (CT:=CT) (Ld:=Ld) (Lf:=Lf) (Lg:=Lg) (Lh:=Lh) (fun ns hl=>Gb l.prog w K C CT Ld Lf Lg ns hl) ?_;obtain ⟨fT,_,_,_,_,_,_,_,_,_,aTI,iTI,lTI,cTI,kTI⟩:=aTI;have TT:Tt K CT:=⟨⟨pgT,hdT,poT,saT⟩,M0,NK⟩;exact GK (P:=l.prog) (w:=w) (base:=base) TT ⟨mkT_,aTI,iTI,kcT⟩ (kX lTI cTI kTI) (PySem.W.mg_of X G aCT) (zK.df C2 aM0) (zK.df qm aM1) (zK.df nR aM2) T R (Az X G MO MQ) ⟨mk,aI,iI,kc⟩ (kX lI cI kI) (PySem.W.mg_of X G aC) (Dk.df X G vT A0) (Dk.df X G pP A1) (Dk.df X G wQ A2) (Dk.df X G qt A3) (Dk.df X G zB A4) (Dk.df X G ue A5) (Dk.df X G wB A6) (Dk.df X G ux A7) (Dk.df X G lY A8) (Dk.df X G qJ A9) (Dk.df X G uO A10) (Dk.df X G Ay A11) (Dk.df X G BR A12) (Dk.df X G vH A13) (Dk.df X G ly A14) (Dk.df X G nM A15) (Dk.df X G CW A16) (Dk.df X G nX A17) (Dk.df X G u9 A18) (Dk.df X G qA A19) (Dk.df X G mE A20) (Dk.df X G nS A21) (Dk.df X G nQ A22) (Dk.df X G lx A23) (Dk.df X G qw A24) (Dk.df X G qE A25) (Dk.df X G nO A26) (Dk.df X G nW A27) (Dk.df X G sU A28) (Dk.df X G nU A29) (Dk.df X G lT A31) (kX l' cc kk)
theorem walk {l:PySem.W.OpenLaw} {q:Program} {loose:List Str} {XP:(Str->Option Value)->Heap->Prop} {YP:World->Heap->Prop} {d:DefRec} {K:Params->Li} (hn:l.most=some 63) (hdf:d.params.defaults=[])
  (hY:∀(w:World) (h:Heap),YP w h->(K w.params).In h)
  (F:∀(w:World) (mg:Str->Option Value) (fa:Addr) (h:Heap),(K w.params).In h->h.Ns mainGlobals mg->mg d.name=some (.ref fa) ->
   ∃fd:FuncData,(∀(s:Shared) (u:Value),BindsTo s fd ⟨[u],[]⟩ [("script",u)])/\∀base:Heap,(K w.params).In base->base.Ns mainGlobals mg->FnOk l.prog w (K w.params) mg base tK 63 fa fd ["script"] (xZ (K w.params))) :
  PySem.W.WalkO q loose XP YP l.row.toRowW d [] (fun f vs=>PySem.call f vs):=
 L2.walk_of (n:=63) (k:=63) (x:= "script") (CX:=fun _=>tK) (sp:=fun w=>xZ (K w.params)) hn 0x3 hdf ⟨rfl,0x3,0x3⟩ hY F (fun _ _ a ns hl _ hS=>⟨a,ns,rfl,hS,hl,fun _=>rfl⟩) fun _ _ _ _ _ z=>z
theorem walkX {q:Program} {loose:List Str} {XP:(Str->Option Value)->Heap->Prop} {K:Params->Li} {as:List Addr} {t:Nat} {r:PySem.W.RowW} {d:DefRec} {kwd:List (Str×Expr)} {run:Value->List Value->Sem Value} (e:∀P,as=(K P).map (·.1))
  (h:PySem.W.WalkO q loose XP (fun w h=>(K w.params).In h) r d kwd run):PySem.W.WalkX q loose XP (PySem.W.X.obsZ as) (PySem.W.X.valZ K n t) r d kwd run:=by
 intro w s₀ s₁ mg mb G y a o pm cd doc dV kV h1 h2 h3 h4 h5 h6 args vals Ny L MZ hlay hrd hwl Nb;exact h w s₀ s₁ mg mb G (fun b ob hb=>L.keeps _ _ ((PySem.W.X.z_facts e y).2.1 b ob hb)) a o pm cd doc dV kV h1 h2 h3 h4 h5 h6 args vals Ny MZ hlay hrd hwl Nb
end K4
namespace PySem.W.Fast
def tw15506819942622972494:=0
def tw5375848384602690020:=0
def tw8488989495134911434:=0
def tw11368313328747521767:=0
def tw15655647487056507126:=0
def tw867581803649306987:=0
def tw4150780919748936821:=0
def tw15425289928723819030:=0
def tw2569636909352516145:=0
def tw11435446504076376943:=0
def tw576509196894234987:=0
def tw2783783660257490398:=0
def tw9094685795411615674:=0
def tw15582843130772715455:=0
def tw9675633555058007066:=0
def tw333372536831971858:=0
def tw3611408400637317036:=0
def tw4419218625176580979:=0
def tw6588045687942153217:=0
def tw16070092873022913107:=0
def tw258467875591843179:=0
def tw17674518334746646404:=0
def tw9811143882964556075:=0
def tw7904714106105618050:=0
def tw18368652330826786495:=0
def tw17558775186120318103:=0
def tw4636543766782164159:=0
def tw3225155198963763300:=0
def tw3196866824201007723:=0
def tw15548031315721170052:=0
def tw9224863226509939423:=0
def tw8229520376534398184:=0
def tw7306172012216389565:=0
def tw17480432066947638216:=0
def tw1441791860247129385:=0
def tw3689769260540942502:=0
def tw4650435671030981081:=0
def tw6553009222677289428:=0
def tw2739307627453438643:=0
def tw16089797148680458083:=0
def tw12049308857136309114:=0
def tw8653733181762220518:=0
def tw15947783827906087245:=0
def tw8333710297784902702:=0
def tw3800186109778872576:=0
def tw11800102363206406466:=0
def tw16353776750655921886:=0
def tw13078271033461250836:=0
def tw7759398399706227283:=0
def tw7672817073838383080:=0
def tw4504822345201022664:=0
def tw5518197242081114434:=0
def tw7661136087281809489:=0
def tw1878427617869049023:=0
def tw14458276412960829247:=0
def tw1481083298527121204:=0
def tw34552718288566578:=0
def tw17892463918135797773:=0
def tw14537526231154184927:=0
def tw631292151205649615:=0
end PySem.W.Fast
open PySem PySem.W PyProof.Rows L2 L3 LW K4
set_option maxRecDepth 100000 in
set_option maxHeartbeats 0 in
theorem PySem.Challenge.cw_meldhouse_k04_best_layings_holds : PySem.Challenge.rw_meldhouse_k04_best_layings.Holds := by
 w_on; o_law; z_head; (case hw=>w_witness2)
 k_fill
 refine K4.walkX (fun _=>rfl) (K4.walk (l:=PySem.Challenge.rw_meldhouse_k04_best_layings) rfl rfl (fun w h Y=>Y) ?F)
 case F=>
  intro w mg fa h KX G hmg;refine' K4.all_mk KX G hmg ?_ ?_ ?_ ?_ ?_ ?_ ?_ ?_ ?_ ?_ ?_ ?_ ?_ ?_ ?_ ?_ ?_ ?_ ?_ ?_ ?_ ?_ ?_ ?_ ?_ ?_ ?_ ?_ ?_ ?_ ?_ ?_ ?_ ?_ ?_ ?_ ?_ ?_ ?_ ?_ ?_ ?_ ?_ ?_ ?_ ?_ ?_ ?_ ?_ ?_ ?_ ?_ ?_ ?_ ?_ ?_ ?_ ?_ ?_ ?_ ?_ ?_ ?_ ?_ ?_ ?_ ?_ ?_ ?_ ?_ ?_ ?_ ?_ ?_ ?_ ?_ ?_ ?_ ?_ ?_ ?_ ?_
  any_goals first|(refine' Dk.mk ?a ?b ?c ?d; (case a=>k_is); (case b=>k_is); (case c=>k_is); (case d=>k_is))|(refine' zK.mk ?a ?b ?c ?d ?e; (case a=>k_is); (case b=>k_is); (case c=>k_is); (case d=>k_is); (case e=>k_is))|k_is|k_exc
