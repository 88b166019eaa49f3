import PyProof.Rows.All
import Wide.All
import OpenK.AllK
import Wide.FinOn
import Lean
import PyProof.EqAt
import PyProof.EqKinds
import PyProof.TupleCall
import KE.KTryDeep
import KE.KTryMore
import KE.KSortTup
import PyProof.Rows.Range3
import KE.IntTextText
import PySem.Challenge.RW_nestwright_k09_fractions_as_texts
open PySem.W (Frag)
open Array renaming getElem?_eq_some_iff → aU, length_toList → bP, getElem?_toList → cr, getElem?_eq_getElem → cV
open Bool renaming and_eq_true_iff → ad, false_ne_true → ao, and_eq_true → ax, eq_iff_iff → aS, not_eq_true' → bo, eq_false_iff → bA, false_eq_true → bH, false_and → bI, and_false → bW, true_and → b9, and_true → cA, or_eq_true → cP, or_eq_true_iff → du
open Int renaming eq_ofNat_of_zero_le → aI, toNat_natCast → aX, natAbs_natCast → bg, natAbs_of_nonneg → bC, natAbs_mul → bX, emod_lt_of_pos → bY, emod_nonneg → cx, one_mul → cO, fmod_eq_emod_of_nonneg → cX, fdiv_eq_ediv_of_nonneg → cY, mul_fdiv_cancel_left → da, fmod_nonneg_of_pos → dj, fmod_def → dl, gcd_eq_zero_iff → dF, lt_or_gt_of_ne → dL, fmod_lt_of_pos → dM, lt_trichotomy → dO
open List renaming size_toArray → af, not_mem_nil → ah, mem_cons → ai, mem_singleton → am, mem_cons_of_mem → aq, mem_cons_self → ar, getElem?_set_ne → au, getElem?_eq_some_iff → av, getElem?_eq_getElem → aw, getElem?_set → ay, mem_append_right → aC, append_nil → aD, length_append → aF, length_map → aH, length_cons → aJ, mem_of_getElem? → aK, filterMap_cons → aL, length_set → aO, contains_cons → aP, all_eq_true → aQ, getElem?_map → aV, replicate_succ → aW, map_cons → aY, length_reverse → bd, mem_filter → bh, flatten_cons → bj, lookup_cons → bp, take_of_length_le → br, getElem?_set_self → bu, mem_append → bw, getElem?_reverse → bz, getElem?_eq_none_iff → bD, getElem?_append_left → bE, length_filterMap_le → bF, map_append → bG, length_singleton → bK, isEmpty_iff → bL, any_cons → bM, nodup_cons → bO, mem_map → bQ, getElem?_append_right → bS, getD_eq_getElem?_getD → bT, drop_zero → bU, reverse_cons → bZ, all_cons → b8, length_take → cb, length_eq_zero_iff → cc, length_drop → ce, getElem?_cons_succ → ci, length_nil → cq, length_replicate → cu, getElem?_toArray → cw, take_zero → cy, map_reverse → cK, any_eq_true → cL, of_mem_zip → cM, take_succ → cS, mem_range → cU, drop_eq_getElem_cons → cW, eq_of_mem_replicate → cZ, range_succ_eq_map → db, all_map → dc, getElem?_eq_none → df, dropLast_eq_take → dh, mem_append_left → dm, take_succ_cons → dn, mem_map_of_mem → dq, length_pos_iff → dr, mem_filterMap → dA, filter_append → dD, filterMap_nil → dE, length_range → dH, ext_getElem? → dI, append_assoc → dJ
open Nat renaming le_refl → aj, lt_of_lt_of_le → ak, le_trans → az, ne_of_lt → aA, lt_irrefl → aM, pow_le_pow_right → aZ, zero_le → bq, lt_of_le_of_lt → bv, le_of_succ_le → bB, lt_trans → bJ, le_succ → bN, lt_or_ge → bR, ne_of_gt → cj, le_of_eq → cm, le_mul_of_pos_left → cn, not_lt → cC, mul_comm → cF, lt_succ_of_lt → cH, le_of_lt → cI, pow_succ → de, pos_of_ne_zero → dG, gcd_zero_left → dN
open Option renaming map_eq_some_iff → aa, ite_none_right_eq_some → ac, bind_eq_some_iff → ae, bind_some → cD, ite_none_left_eq_some → cJ, isSome_iff_exists → cQ, getD_none → dw
open Rat renaming intCast_mul → cs
set_option Elab.async false
set_option linter.all false
set_option maxRecDepth 100000
namespace L2
open PySem PySem.Spec PyProof.Rows
abbrev mW:=Sum Int Str
def n6:mW->Value->Bool
 | .inl k,v=>Value.isInt k v
 | .inr x,v=>Value.isStrOf x v
def BR(w:World):mW->Int
 | .inl k=>hashInt k
 | .inr x=>hashStr w x
theorem jy:∀{k:mW} {v:Value},n6 k v=true->(∃ i t,k=Sum.inl i/\v=Value.int i t)\/(∃ x t,k=Sum.inr x/\v=Value.str x t)
 | .inl i,v,h=>by
  obtain⟨t,e⟩:=Value.isInt_shape (k:=i) (v:=v) h;exact .inl ⟨i,t,rfl,e⟩
 | .inr x,v,h=>by
  obtain⟨t,e⟩:=Value.isStrOf_shape (x:=x) (v:=v) h;exact .inr ⟨x,t,rfl,e⟩
theorem tG(i:Int)(t:Tok):n6 (.inl i) (.int i t)=true:=by simp [n6,Value.isInt]
theorem tF(x:Str)(t:Tok):n6 (.inr x) (.str x t)=true:=by simp [n6,Value.isStrOf]
theorem yZ(a b:Int):decide ((Sum.inl a:mW)=Sum.inl b)=(a == b):=by
 by_cases e:a=b
 ·subst e;simp
 ·have h:¬ (Sum.inl a:mW)=Sum.inl b:=fun q=>e (Sum.inl.inj q);rw [decide_eq_false h];exact (beq_eq_false_iff_ne.mpr e).symm
theorem yW(a b:Str):decide ((Sum.inr a:mW)=Sum.inr b)=decide (a=b):=by
 by_cases e:a=b
 ·subst e;simp
 ·have h:¬ (Sum.inr a:mW)=Sum.inr b:=fun q=>e (Sum.inr.inj q);rw [decide_eq_false h,decide_eq_false e]
theorem yY(a:Int)(b:Str):decide ((Sum.inl a:mW)=Sum.inr b)=false:=decide_eq_false (fun q=>nomatch q)
theorem yX(a:Str)(b:Int):decide ((Sum.inr a:mW)=Sum.inl b)=false:=decide_eq_false (fun q=>nomatch q)
def lL(prog:Program)(w:World):PySem.KeyKind prog w mW where
 is:=n6
 hash:=BR w
 inj:=fun v a b ha hb=>by
  rcases jy ha with⟨i,t,rfl,rfl⟩|⟨x,t,rfl,rfl⟩
  ·rcases jy hb with⟨j,u,rfl,e⟩|⟨y,u,rfl,e⟩
   ·injection e with e1 _;rw [e1]
   ·exact nomatch e
  ·rcases jy hb with⟨j,u,rfl,e⟩|⟨y,u,rfl,e⟩
   ·exact nomatch e
   ·injection e with e1 _;rw [e1]
 byValue:=fun k v h=>by
  rcases jy h with⟨i,t,rfl,rfl⟩|⟨x,t,rfl,rfl⟩ <;> rfl
 pyHash:=fun hv h=>by
  rcases jy hv with⟨i,t,rfl,rfl⟩|⟨x,t,rfl,rfl⟩
  ·exact wpAny_pyHash_int h
  ·exact wpAny_pyHash_str h
 eqBool:=fun hu hv h=>by
  rcases jy hu with⟨i,t,rfl,rfl⟩|⟨x,t,rfl,rfl⟩
  ·rcases jy hv with⟨j,u,rfl,rfl⟩|⟨y,u,rfl,rfl⟩
   ·rw [yZ] at h;exact wpAny_eqBool_int h
   ·rw [yY] at h;exact SeqAt.EqAt.int_str i t y u _ _ _ _ h
  ·rcases jy hv with⟨j,u,rfl,rfl⟩|⟨y,u,rfl,rfl⟩
   ·rw [yX] at h;exact SeqAt.EqAt.str_int x t j u _ _ _ _ h
   ·rw [yW] at h;exact wpAny_eqBool_str h
 «strs» := fun k x t v h=>by
  rcases jy h with⟨i,u,rfl,e⟩|⟨y,u,rfl,e⟩
  ·exact nomatch e
  ·injection e with e1 _;subst e1;cases v <;> rfl
end L2
namespace L2
open PySem PySem.Spec PyProof.Rows
inductive V where
 | non|bl (b:Bool)|int (i:Int)|str (x:Str)|byt (b:Array UInt8)|flt (b:UInt64)|ref (a:Addr)|ty (n:String)
 deriving DecidableEq
def RelV:V->Value->Prop
 | .non,u=>u=Value.none
 | .bl b,u=>u=Value.bool b
 | .int i,u=>∃ t,u=Value.int i t
 | .str x,u=>∃ t,u=Value.str x t
 | .byt b,u=>∃ t,u=Value.bytes b t
 | .flt b,u=>∃ t,u=Value.float b t
 | .ref a,u=>u=Value.ref a
 | .ty n,u=>u=Value.type n
abbrev Vals:List V->List Value->Prop:=Paired RelV
theorem Vals.length{xs:List V}{us:List Value}(r:Vals xs us):xs.length=us.length:=Paired.length r
theorem Vals.get:∀{xs:List V} {us:List Value} {i:Nat} {x:V},Vals xs us->xs[i]? = some x->∃ u,us[i]? = some u/\RelV x u
 | _,_,_,_,.nil,e=>by simp at e
 | _,_,0,_,.cons r _,e=>by simp at e;subst e;exact⟨_,rfl,r⟩
 | _,_,i+1,x,.cons _ t,e=>by
  obtain⟨u,h1,h2⟩:=Vals.get (i:=i) (x:=x) t (by simpa using e);exact⟨u,by simpa using h1,h2⟩
theorem Vals.set{x:V}{u:Value}(r:RelV x u):∀{xs:List V} {us:List Value} (i:Nat),Vals xs us->Vals (xs.set i x) (us.set i u)
 | _,_,_,.nil=>.nil
 | _,_,0,.cons _ t=>.cons r t
 | _,_,i+1,.cons q t=>.cons q (Vals.set r i t)
theorem Vals.append:∀{xs ys:List V} {us ws:List Value},Vals xs us->Vals ys ws->Vals (xs++ys) (us++ws)
 | _,_,_,_,.nil,s=>s
 | _,_,_,_,.cons r t,s=>.cons r (Vals.append t s)
theorem Vals.take:∀{xs:List V} {us:List Value} (n:Nat),Vals xs us->Vals (xs.take n) (us.take n)
 | _,_,0,_=>.nil
 | _,_,_+1,.nil=>.nil
 | _,_,n+1,.cons r t=>.cons r (Vals.take n t)
theorem Vals.drop:∀{xs:List V} {us:List Value} (n:Nat),Vals xs us->Vals (xs.drop n) (us.drop n)
 | _,_,0,r=>r
 | _,_,_+1,.nil=>.nil
 | _,_,n+1,.cons _ t=>Vals.drop n t
def RelO:Option V->Option Value->Prop
 | some v,some u=>RelV v u
 | none,none=>True
 | _,_=>False
def KV{κ:Type}:List (κ×V)->List (κ×Value)->Prop:=Paired fun (p:κ×V) (q:κ×Value)=>p.1=q.1/\RelV p.2 q.2
def kV:mW->V
 | .inl i=>.int i
 | .inr x=>.str x
inductive HO where
 | lst (xs:List V)
 | tup (xs:List V)
 | dK (kvs:List (mW×V))|dT (kvs:List (List mW×V))
 | set (S:Int->Bool) (n:Nat)
 | ins (C dx:Addr) (fs:List (Str×V))
 | own (x:Addr)
 | xd (fs:List (Str×V))
 | met (f x:Addr)
 | rng (lo hi:Int)
 | frz (o:Obj) (u:HO)
 | tbl (ps:Array Value)
 | ext (φ:Heap->Prop)
abbrev Hp:=Addr->Option HO
def jr(H:Hp)(a:Addr)(o:HO):Hp:=fun b=>if b=a then some o else H b
theorem ji{H:Hp}{a:Addr}{o:HO}:jr H a o a=some o:=by unfold jr;rw [if_pos rfl]
theorem jh{H:Hp}{a b:Addr}{o:HO}(h:b≠a):jr H a o b=H b:=by unfold jr;rw [if_neg h]
theorem rL{H:Hp}{a:Addr}{o u:HO}:jr (jr H a o) a u=jr H a u:=by
 funext b;unfold jr;split <;> rfl
theorem Aq{H:Hp}{a b:Addr}{o u:HO}(h:H a=some o)(h':H b=some u)(d:o≠u):a≠b:=by
 intro e;subst e;rw [h] at h';exact d (Option.some.inj h')
theorem jo{H:Hp}{a b:Addr}{o:HO}(h:H a=some o)(h':H b=none):a≠b:=by
 intro e;subst e;rw [h] at h';cases h'
section
variable(P:Program)(w:World)
def ObjOk(H:Hp)(h:Heap)(a:Addr):HO->Prop
 | .lst xs=>xs.length<=sizeLine/\∃(its:List Value) (n:Nat),Vals xs its/\h.get? a=some { cls:=.type "list",data:=.seq its.toArray n }
 | .tup xs=>xs.length<=sizeLine/\∃ its:List Value,Vals xs its/\IsTup h a its.toArray
 | .dK kvs=>kvs.length<=sizeLine/\(a == sysModules)=false/\∃ vs,KV kvs vs/\h.DictOf (lL P w) a vs
 | .dT kvs=>kvs.length<=sizeLine/\(a == sysModules)=false/\∃ xs:List (List mW×Addr×Value),
   Paired (fun (p:List mW×V) (q:List mW×Addr×Value)=>p.1=q.1/\H q.2.1=some (.tup (p.1.map kV))/\RelV p.2 q.2.2) kvs xs /\
   ∃ o es ep,h.get? a=some o/\o.ExactDict/\o.data = .dict es ep/\es.toList=xs.map (entryOfKey (tupleKind (lL P w)))/\(xs.map (·.1)).Nodup
 | .set S n=>h.SetOf (intKind P w) a S n
 | .ins C dx fs=>H dx=some (.own a)/\fs.length<=1000/\dx≠a/\h.get? a=some (PySem.W.instObj C dx) /\
   ∃ mA,h.Ns1 dx mA/\(∀ f,RelO (fs.lookup f) (mA f))/\PySem.Within mA (fs.map (·.1))
 | .own _=>∃ o,h.get? a=some o
 | .xd fs=>∃ mA,h.Ns1 a mA/\∀ f,RelO (fs.lookup f) (mA f)
 | .rng lo hi=>∃ t u v,h.get? a=some { cls:=.type "range",data:=.fields #[.int lo t,.int hi u,.int 1 v] }
 | .frz o u=>h.get? a=some o/\ObjOk H h a u
 | .tbl ps=>h.get? a=some { cls:=.none,data:=.fields ps }
 | .met f x=>h.get? a=some (PySem.W.methodObj (.ref f) (.ref x))
 | .ext φ=>φ h/\(∃ o,h.get? a=some o)/\∀ h1 h2:Heap,φ h1->(∀ o,h1.get? a=some o->h2.get? a=some o)->φ h2
def HOk(H:Hp)(h:Heap):Prop:=∀ a o,H a=some o->ObjOk P w H h a o
end
section
variable{P:Program}{w:World}{H H':Hp}{h h':Heap}{a:Addr}{o:HO}
theorem ObjOk.lt(x:ObjOk P w H h a o):a<h.objs.size:=by
 cases o with
 | lst xs=>obtain⟨_,_,_,_,e⟩:=x;exact Heap.lt_size e
 | tup xs=>obtain⟨_,_,_,p⟩:=x;exact p.lt
 | dK kvs=>obtain⟨_,_,_,_,o,_,_,e,_⟩:=x;exact Heap.lt_size e
 | dT kvs=>obtain⟨_,_,_,_,o,_,_,e,_⟩:=x;exact Heap.lt_size e
 | set S n=>obtain⟨o,_,_,_,e,_⟩:=x;exact Heap.lt_size e
 | ins C dx fs=>obtain⟨_,_,_,e,_⟩:=x;exact Heap.lt_size e
 | own y=>obtain⟨_,e⟩:=x;exact Heap.lt_size e
 | xd fs=>obtain⟨_,⟨_,_,_,e,_⟩,_⟩:=x;exact Heap.lt_size e
 | rng lo hi=>obtain⟨_,_,_,e⟩:=x;exact Heap.lt_size e
 | frz ob u=>obtain⟨e,_⟩:=x;exact Heap.lt_size e
 | tbl ps=>exact Heap.lt_size (show h.get? a=some _ from x)
 | met f y=>exact Heap.lt_size (show h.get? a=some _ from x)
 | ext φ=>obtain⟨_,⟨_,e⟩,_⟩:=x;exact Heap.lt_size e
theorem Paired.mapP{α β:Type}{F G:α->β->Prop}:∀{l₁:List α} {l₂:List β},Paired F l₁ l₂->(∀ a b,F a b->G a b)->Paired G l₁ l₂
 | _,_,.nil,_=>.nil
 | _,_,.cons r t,f=>.cons (f _ _ r) (Paired.mapP t f)
theorem ObjOk.stay(x:ObjOk P w H h a o)(k:∀ b u,(b=a\/H b=some (.own a))->h.get? b=some u->h'.get? b=some u)
  (ho:∀ b,H b=some (.own a)->H' b=some (.own a)) (ht:∀ b xs,H b=some (.tup xs)->H' b=some (.tup xs)):ObjOk P w H' h' a o:=by
 induction o with
 | lst xs=>obtain⟨z,its,n,r,e⟩:=x;exact⟨z,its,n,r,k _ _ (.inl rfl) e⟩
 | tup xs=>obtain⟨z,its,r,ob,e,c⟩:=x;exact⟨z,its,r,ob,k _ _ (.inl rfl) e,c⟩
 | dK kvs=>obtain⟨z,y,vs,r,ob,es,ep,e,c⟩:=x;exact⟨z,y,vs,r,ob,es,ep,k _ _ (.inl rfl) e,c⟩
 | dT kvs =>
  obtain⟨z,y,xs,r,ob,es,ep,e,c⟩:=x;exact⟨z,y,xs,Paired.mapP r fun p q z=>⟨z.1,ht _ _ z.2.1,z.2.2⟩,ob,es,ep,k _ _ (.inl rfl) e,c⟩
 | set S n=>obtain⟨ob,es,ep,t,e,c⟩:=x;exact⟨ob,es,ep,t,k _ _ (.inl rfl) e,c⟩
 | ins C dx fs =>
  obtain⟨d,z,ne,e,mA,⟨od,es,ep,e2,c⟩,r⟩:=x;exact⟨ho _ d,z,ne,k _ _ (.inl rfl) e,mA,⟨od,es,ep,k _ _ (.inr d) e2,c⟩,r⟩
 | own y=>obtain⟨ob,e⟩:=x;exact⟨ob,k _ _ (.inl rfl) e⟩
 | xd fs=>obtain⟨mA,⟨od,es,ep,e,c⟩,r⟩:=x;exact⟨mA,⟨od,es,ep,k _ _ (.inl rfl) e,c⟩,r⟩
 | rng lo hi=>obtain⟨t,u,v,e⟩:=x;exact⟨t,u,v,k _ _ (.inl rfl) e⟩
 | frz ob u ih=>obtain⟨e,q⟩:=x;exact⟨k _ _ (.inl rfl) e,ih q⟩
 | tbl ps =>
  have e:h.get? a=some { cls:=.none,data:=.fields ps }:=x;show h'.get? a=some { cls:=.none,data:=.fields ps };exact k a _ (.inl rfl) e
 | met f y =>
  have e:h.get? a=some (PySem.W.methodObj (.ref f) (.ref y)):=x;show h'.get? a=some (PySem.W.methodObj (.ref f) (.ref y));exact k a _ (.inl rfl) e
 | ext φ=>obtain⟨p,⟨o,e⟩,st⟩:=x;exact⟨st _ _ p fun o q=>k _ _ (.inl rfl) q,⟨o,k _ _ (.inl rfl) e⟩,st⟩
theorem HOk.lt(x:HOk P w H h)(e:H a=some o):a<h.objs.size:=(x a o e).lt
theorem HOk.fresh(x:HOk P w H h)(e:h.objs.size<=a):H a=none:=by
 cases q:H a with
 | none=>rfl
 | some u=>exact absurd (ak (x.lt q) e) (aM _)
theorem HOk.kept(x:HOk P w H h)(k:∀ b u,h.get? b=some u->h'.get? b=some u):HOk P w H h':=fun a o e =>
 (x a o e).stay (fun b u _ q=>k b u q) (fun _ q=>q) fun _ _ q=>q
theorem HOk.laid(x:HOk P w H h)(k:∀ b u,h.get? b=some u->h'.get? b=some u)(hp:h.objs.size<=a)(new:ObjOk P w (jr H a o) h' a o):HOk P w (jr H a o) h':=fun b u e=>by
 have hn:=x.fresh hp;by_cases hb:b=a
 ·subst hb;rw [ji] at e;cases e;exact new
 ·rw [jh hb] at e;exact (x b u e).stay (fun c v _ q=>k c v q) (fun c q=>by rw [jh (jo q hn)];exact q) fun c xs q=>by rw [jh (jo q hn)];exact q
end
def Rd(H:Hp)(a:Addr)(u:HO):Prop:=H a=some u\/∃ o,H a=some (.frz o u)
theorem Rd.ok{P:Program}{w:World}{H:Hp}{h:Heap}{a:Addr}{u:HO}(r:Rd H a u)(x:HOk P w H h):ObjOk P w H h a u:=by
 rcases r with r|⟨o,r⟩
 ·exact x a u r
 ·obtain⟨_,q⟩:=x a _ r;exact q
def A2:Option HO->Prop
 | some (.lst _)=>True
 | some (.dK _)=>True
 | some (.dT _)=>True
 | some (.set _ _)=>True
 | some (.ins _ _ _)=>True
 | some (.ext _)=>True
 | _=>False
section
variable{P:Program}{w:World}{H:Hp}{h h':Heap}{x e:Addr}{o':HO}
theorem HOk.write(ok:HOk P w H h)(mu:A2 (H x))(he:e=x\/H e=some (.own x))(k:∀ b u,b≠e->h.get? b=some u->h'.get? b=some u)(heo:∃ u,h'.get? e=some u)
  (new:ObjOk P w (jr H x o') h' x o'):HOk P w (jr H x o') h':=fun b u q=>by
 have nown:∀ c y,H c=some (.own y)->c≠x:=fun c y r z=>by subst z;rw [r] at mu;exact mu
 have ntup:∀ c xs,H c=some (.tup xs)->c≠x:=fun c xs r z=>by subst z;rw [r] at mu;exact mu
 by_cases hb:b=x
 ·subst hb;rw [ji] at q;cases q;exact new
 ·rw [jh hb] at q;by_cases hbe:b=e
  ·have q':H b=some (.own x):=by
    rcases he with z|z
    ·exact absurd (hbe.trans z) hb
    ·rw [hbe];exact z
   rw [q] at q';cases q';obtain⟨v,hv⟩:=heo;exact⟨v,by rw [hbe];exact hv⟩
  ·refine (ok b u q).stay (fun c v hc r=>k c v ?_ r) (fun c r=>by rw [jh (nown c b r)];exact r) fun c xs r=>by rw [jh (ntup c xs r)];exact r
   rcases hc with rfl|hc
   ·exact hbe
   ·rintro rfl;rcases he with z|z
    ·exact nown c b hc z
    ·rw [hc] at z;cases z;exact hb rfl
end
structure Un (fs ex:List Addr)(H H':Hp)(h h':Heap):Prop where
 keep:∀ b o,h.get? b=some o->H b=none->b ∉ fs->b ∉ ex->h'.get? b=some o
 slot:∀ b o,h.get? b=some o->H b=none->b∈fs->b ∉ ex->∃ sl,h'.get? b=some { o with slots:=sl }
 free:∀ b o,h.get? b=some o->H b=none->b ∉ ex->H' b=none
 there:∀ b o,h.get? b=some o->b ∉ ex->∃ o',h'.get? b=some o'
 tups:∀ b xs,H b=some (.tup xs)->H' b=some (.tup xs)
 frzs:∀ b o u,H b=some (.frz o u)->H' b=some (.frz o u)
 tbls:∀ b ps,H b=some (.tbl ps)->∃ more,H' b=some (.tbl (ps++more))
section
variable{fs fs' ex ex':List Addr}{H H1 H2:Hp}{h h1 h2 h':Heap}{a x e:Addr}{o:HO}
theorem Un.any(u:Un fs ex H H1 h h1){b:Addr}{ob:Obj}(q:h.get? b=some ob)(n:H b=none)(hx:b ∉ ex):∃ sl,h1.get? b=some { ob with slots:=sl }:=by
 by_cases hb:b∈fs
 ·exact u.slot b ob q n hb hx
 ·exact⟨ob.slots,u.keep b ob q n hb hx⟩
theorem Un.kept(k:∀ b u,h.get? b=some u->h'.get? b=some u):Un fs ex H H h h' :=
 ⟨fun b ob q _ _ _=>k b ob q,fun b ob q _ _ _=>⟨ob.slots,k b ob q⟩,fun _ _ _ n _=>n,fun b ob q _=>⟨ob,k b ob q⟩,fun _ _ q=>q,fun _ _ _ q=>q,fun _ ps q=>⟨#[],by rw [q];simp⟩⟩
theorem Un.refl:Un fs ex H H h h:=Un.kept fun _ _ q=>q
theorem Un.laid(k:∀ b u,h.get? b=some u->h'.get? b=some u)(hp:h.objs.size<=a)(hn:H a=none):Un fs ex H (jr H a o) h h' where
 keep:=fun b u q _ _ _=>k b u q
 slot:=fun b u q _ _ _=>⟨u.slots,k b u q⟩
 free:=fun b u q n _=>by rw [jh (aA (ak (Heap.lt_size q) hp))];exact n
 there:=fun b u q _=>⟨u,k b u q⟩
 tups:=fun b xs q=>by rw [jh (jo q hn)];exact q
 frzs:=fun b u xs q=>by rw [jh (jo q hn)];exact q
 tbls:=fun b ps q=>⟨#[],by rw [jh (jo q hn),q];simp⟩
theorem Un.write(mu:A2 (H x))(he:e=x\/H e=some (.own x))(k:∀ b u,b≠e->h.get? b=some u->h'.get? b=some u)(heo:∃ u,h'.get? e=some u):Un fs ex H (jr H x o) h h':=by
 have hx:∀ b,H b=none->b≠x:=fun b n z=>by subst z;rw [n] at mu;exact mu
 have hb:∀ b,H b=none->b≠e:=fun b n z=>by
  subst z;rcases he with r|r
  ·exact hx b n r
  ·rw [n] at r;cases r
 have hm:∀ b u,H b=some u->¬ A2 (some u)->b≠x:=fun b u q nm z=>by subst z;rw [q] at mu;exact nm mu
 refine⟨fun b u q n _ _=>k b u (hb b n) q,fun b u q n _ _=>⟨u.slots,k b u (hb b n) q⟩,fun b u q n _=>by rw [jh (hx b n)];exact n,fun b u q _=>?_,
  fun b xs q=>by rw [jh (hm b _ q fun z=>z)];exact q,fun b u xs q=>by rw [jh (hm b _ q fun z=>z)];exact q,fun b ps q=>⟨#[],by rw [jh (hm b _ q fun z=>z),q];simp⟩⟩
 by_cases hbe:b=e
 ·subst hbe;exact heo
 ·exact⟨u,k b u hbe q⟩
end
def AV(h:Heap)(H:Hp):List Addr:=(List.range h.objs.size).filter fun a=>(H a).isSome
def nN(h:Heap)(H:Hp):Heap:=PySem.W.hideAll h (AV h H)
theorem tM(h:Heap)(H:Hp):(nN h H).objs.size=h.objs.size:=PySem.W.hideAll_size _ _
theorem vf{h:Heap}{H:Hp}{b:Addr}{o:Obj}(e:h.get? b=some o)(n:H b=none):(nN h H).get? b=some o :=
 PySem.W.hideAll_get _ e fun hm=>by
  have q:(H b).isSome=true:=(bh.mp hm).2;rw [n] at q;simp at q
theorem wA{h:Heap}{H:Hp}{b:Addr}{o:Obj}(e:(nN h H).get? b=some o):h.get? b=some o/\H b=none:=by
 have e':h.get? b=some o:=PySem.W.of_hideAll (AV h H) e;refine⟨e',?_⟩;cases q:H b with
 | none=>rfl
 | some x =>
  have hm:b∈AV h H:=bh.mpr ⟨cU.mpr (Heap.lt_size e'),by simp [q]⟩;have z:(nN h H).get? b=none:=PySem.W.hideAll_none (AV h H) hm;rw [z] at e;cases e
end L2
namespace L2
open PySem PySem.Spec PyProof.Rows
structure Mod (K:Frag)(mg:Str->Option Value)(base:Heap):Prop where
 kin:K.In base
 glob:base.Ns mainGlobals mg
 blt:∃ mb,base.Ns builtinsNs mb/\∀ x:Str,x ≠ "__name__" -> mb x=bootBuiltins x
 nolimit:base.NoLimit
structure Cx where
 prog:Program
 w:World
 K:Frag
 mg:Str->Option Value
 base:Heap
 A:Around
 N:List Str
 s₀:Shared
 H₀:Hp
 env:Env
 outer:List Env
 stack:List Env
 ex:List Addr
 fn:Str->Bool
 calm:Bool
 pn:List (Addr×Obj)
 xe:Value->Shared->Prop
def nq(l:List Env):List Addr:=l.filterMap (·.frame)
abbrev Cx.fs(X:Cx):List Addr:=nq X.outer
def xn(sc:Scope)(x:Str):Prop:=sc.names.lookup x=some .local\/sc.names.lookup x=some .cell\/sc.names.lookup x=some .free
def tX(sc:Scope)(x:Str):Prop:=sc.names.lookup x=some .local\/sc.names.lookup x=some .cell
def Ca(env:Env)(h:Heap)(m:Str->Option Value)(x:Str)(u:Value):Prop :=
 (env.kindOf x=some .local/\m x=some u)\/((env.kindOf x=some .cell\/env.kindOf x=some .free)/\∃ c,env.cells.lookup x=some c/\h.IsCell c (some u))
structure Cx.Ok (X:Cx):Prop where
 mod:Mod X.K X.mg X.base
 kind:X.env.scope.kind = .function
 glob:X.env.globals=mainGlobals
 blt:X.env.builtins=builtinsNs
 above:X.s₀.heap.objs.size<=X.env.locals
 inj:∀ x y c,X.env.cells.lookup x=some c->X.env.cells.lookup y=some c->x=y
 has:∀ x,(X.env.kindOf x=some .cell\/X.env.kindOf x=some .free)->∃ c,X.env.cells.lookup x=some c
 cab:∀ x c,X.fn x=true->X.env.cells.lookup x=some c->X.s₀.heap.objs.size<=c
 hd:X.calm=true->X.A.handled=none
 frames:X.A.frames=some X.stack
 stk:X.stack=X.outer\/(X.stack=X.env::X.outer/\X.env.frame=some X.env.locals)
 exf:∀ b∈X.ex,b≠X.env.locals/\∀ x c,X.env.cells.lookup x=some c->c≠b
 bs:∀ b o,X.base.get? b=some o->X.s₀.heap.get? b=some o/\X.H₀ b=none
 bsz:X.base.objs.size<=X.s₀.heap.objs.size
 noex:∀ b o,X.base.get? b=some o->b ∉ X.ex
 exfs:∀ b∈X.ex,b ∉ X.fs
 funs:X.s₀.heap.FunFrames X.base X.outer
 frf:∀ b∈X.fs,X.H₀ b=none
 sr:X.base.NoSeer/\X.prog.given.tree=none
 rn:∃ e l,X.stack=e::l/\e.scope.isGenerator=false/\e.scope.isCoroutine=false/\e.builtins=builtinsNs/\e.globals=mainGlobals
structure Inv (X:Cx)(pins:List (Addr×Obj))(σ:List (Option V))(H:Hp)(s:Shared):Prop where
 ok:X.Ok
 os:s.os=X.s₀.os
 bare:AllBare s.gens
 base:Un X.fs X.ex X.H₀ H X.s₀.heap s.heap
 loc:∃ m,s.heap.Ns X.env.locals m/\∀(i:Nat) (x:Str) (v:V),X.N[i]? = some x->σ[i]? = some (some v)->xn X.env.scope x->∃ u,RelV v u/\Ca X.env s.heap m x u
 cell:∀ x c,X.env.cells.lookup x=some c->∃ v,s.heap.IsCell c v
 free:H X.env.locals=none
 freeC:∀ x c,X.env.cells.lookup x=some c->H c=none
 pin:∀ p∈X.pn++pins,s.heap.get? p.1=some p.2/\H p.1=none/\p.1≠X.env.locals/\p.1 ∉ X.fs/\∀ v,p.2.data ≠ .cell v
 hok:HOk X.prog X.w H s.heap
 len:σ.length=X.N.length
section
variable{X:Cx}{pins:List (Addr×Obj)}{σ:List (Option V)}{H H':Hp}{s:Shared}{h':Heap}
theorem Cx.Ok.nofr(ok:X.Ok){b:Addr}{o:Obj}(e:X.base.get? b=some o):b ∉ X.fs:=fun hb=>by
 have:=(ok.funs.mem hb).1;rw [e] at this;cases this
theorem Inv.bs(I:Inv X pins σ H s):∀ b o,X.base.get? b=some o->s.heap.get? b=some o/\H b=none:=fun b o e =>
 ⟨I.base.keep b o (I.ok.bs b o e).1 (I.ok.bs b o e).2 (I.ok.nofr e) (I.ok.noex b o e),I.base.free b o (I.ok.bs b o e).1 (I.ok.bs b o e).2 (I.ok.noex b o e)⟩
theorem Inv.bk(I:Inv X pins σ H s):∀ b o,X.base.get? b=some o->s.heap.get? b=some o:=fun b o e=>(I.bs b o e).1
theorem Inv.mod(I:Inv X pins σ H s):Mod X.K X.mg X.base:=I.ok.mod
theorem Inv.kIn(I:Inv X pins σ H s):X.K.In s.heap:=I.ok.mod.kin.keeps I.bk
theorem Inv.nolimit(I:Inv X pins σ H s):s.heap.NoLimit:=I.ok.mod.nolimit.keeps I.bk
theorem Inv.lt(I:Inv X pins σ H s):X.env.locals<s.heap.objs.size:=let ⟨_,hn,_⟩:=I.loc;hn.lt
theorem Inv.sz(I:Inv X pins σ H s):X.s₀.heap.objs.size<=s.heap.objs.size:=az I.ok.above (cI I.lt)
theorem Inv.nofs(I:Inv X pins σ H s){a:Addr}(h:s.heap.objs.size<=a):a ∉ X.fs:=fun hb=>by
 obtain⟨_,o,ho,_⟩:=I.ok.funs.mem hb;exact absurd (ak (Heap.lt_size ho) (az I.sz h)) (aM _)
theorem Inv.cne(I:Inv X pins σ H s):∀ x c,X.env.cells.lookup x=some c->c≠X.env.locals:=fun x c e z=>by
 obtain⟨v,o,ho,hd⟩:=I.cell x c e;obtain⟨m,⟨o',es,ep,ho',hd',_⟩,_⟩:=I.loc;rw [z,ho'] at ho;cases ho;rw [hd'] at hd;cases hd
theorem Inv.funs(I:Inv X pins σ H s):s.heap.FunFrames X.base X.outer:=by
 have all:∀(l:List Env),(∀ b∈nq l,b∈X.fs)->X.s₀.heap.FunFrames X.base l->s.heap.FunFrames X.base l:=by
  intro l;induction l with
  | nil=>intro _ _;trivial
  | cons env r ih =>
   intro hs hl;obtain⟨hk,⟨L,o,hf,hn,ho,hd⟩,hr⟩:=hl;have hL:L∈X.fs:=hs L (by unfold nq;rw [aL,hf];exact ar);obtain⟨sl,e⟩:=I.base.slot L o ho (I.ok.frf L hL) hL fun z=>I.ok.exfs L z hL;exact⟨hk,⟨L,_,hf,hn,e,hd⟩,ih (fun b hb=>hs b (by unfold nq;rw [aL,hf];exact aq _ hb)) hr⟩
 exact all X.outer (fun _ hb=>hb) I.ok.funs
theorem Inv.stack(I:Inv X pins σ H s):s.heap.FunFrames X.base X.stack:=by
 rcases I.ok.stk with e|⟨e,hf⟩
 ·rw [e];exact I.funs
 ·rw [e];obtain⟨m,hn,_⟩:=I.loc;refine .cons (by rw [I.ok.kind];decide) hf hn ?_ I.funs;exact Heap.get?_none_of_le (az I.ok.bsz I.ok.above)
theorem Inv.stkSub(I:Inv X pins σ H s):∀ b∈nq X.stack,b∈X.env.locals::X.fs:=fun b hb=>by
 rcases I.ok.stk with e|⟨e,hf⟩
 ·rw [e] at hb;exact aq _ hb
 ·rw [e] at hb;unfold nq at hb;rw [aL,hf] at hb;exact hb
theorem Inv.stkFree(I:Inv X pins σ H s):∀ b∈nq X.stack,H b=none:=fun b hb=>by
 rcases ai.mp (I.stkSub b hb) with e|hb
 ·rw [e];exact I.free
 ·obtain⟨_,o,ho,_⟩:=I.ok.funs.mem hb;exact I.base.free b o ho (I.ok.frf b hb) fun z=>I.ok.exfs b z hb
theorem Inv.step{g':Array GenState}{t':Nat}{d':Drawn}{ch:List Addr}(I:Inv X pins σ H s)
  (hch:∀ b∈ch,(b∈X.ex\/X.s₀.heap.objs.size<=b)/\b≠X.env.locals/\(∀ x c,X.env.cells.lookup x=some c->c≠b)/\∀ p∈X.pn++pins,p.1≠b)
  (keep:∀ b o,b≠X.env.locals->b ∉ X.fs->b ∉ ch->s.heap.get? b=some o->H b=none->h'.get? b=some o)
  (slot:∀ b o,b≠X.env.locals->b∈X.fs->b ∉ ch->s.heap.get? b=some o->H b=none->∃ sl,h'.get? b=some { o with slots:=sl }) (free:∀ b o,b ∉ ch->s.heap.get? b=some o->H b=none->H' b=none)
  (there:∀ b o,b ∉ ch->s.heap.get? b=some o->∃ o',h'.get? b=some o')
  (tups:∀ b xs,H b=some (.tup xs)->H' b=some (.tup xs)) (frzs:∀ b o u,H b=some (.frz o u)->H' b=some (.frz o u)) (tbls:∀ b ps,H b=some (.tbl ps)->∃ more,H' b=some (.tbl (ps++more)))
  (ns:∀ m,s.heap.Ns X.env.locals m->h'.Ns X.env.locals m) (hok:HOk X.prog X.w H' h') (hg:AllBare g') :
  Inv X pins σ H' { s with heap:=h',gens:=g',drawn:=d',toks:=t' }:=by
 have neL:∀ b o,X.s₀.heap.get? b=some o->b≠X.env.locals:=fun b o e=>aA (ak (Heap.lt_size e) I.ok.above);have neC:∀ b o,X.s₀.heap.get? b=some o->b ∉ X.ex->b ∉ ch:=fun b o e hx hb=>by
  rcases (hch b hb).1 with z|z
  ·exact hx z
  ·exact absurd (ak (Heap.lt_size e) z) (aM _)
 have cellK:∀ x c,X.env.cells.lookup x=some c->∀ v,s.heap.IsCell c v->h'.IsCell c v:=fun x c e v ⟨o,ho,hd⟩=>by
  have nch:c ∉ ch:=fun z=>(hch c z).2.2.1 x c e rfl;by_cases hc:c∈X.fs
  ·obtain⟨sl,q⟩:=slot c o (I.cne x c e) hc nch ho (I.freeC x c e);exact⟨_,q,hd⟩
  ·exact⟨o,keep c o (I.cne x c e) hc nch ho (I.freeC x c e),hd⟩
 refine⟨I.ok,I.os,hg,⟨fun b o e n hb hx=>?_,fun b o e n hb hx=>?_,fun b o e n hx=>?_,fun b o e hx=>?_,fun b xs e=>tups b xs (I.base.tups b xs e),fun b o xs e=>frzs b o xs (I.base.frzs b o xs e),fun b ps e=>?_⟩,?_,fun x c e=>?_,?_,fun x c e=>?_,fun p hp=>?_,hok,I.len⟩
 ·exact keep b o (neL b o e) hb (neC b o e hx) (I.base.keep b o e n hb hx) (I.base.free b o e n hx)
 ·obtain⟨sl,e1⟩:=I.base.slot b o e n hb hx;obtain⟨sl',e2⟩:=slot b _ (neL b o e) hb (neC b o e hx) e1 (I.base.free b o e n hx);exact⟨sl',e2⟩
 ·obtain⟨o',e1⟩:=I.base.there b o e hx;exact free b o' (neC b o e hx) e1 (I.base.free b o e n hx)
 ·obtain⟨o',e1⟩:=I.base.there b o e hx;exact there b o' (neC b o e hx) e1
 ·obtain⟨m1,e1⟩:=I.base.tbls b ps e;obtain⟨m2,e2⟩:=tbls b _ e1;exact⟨m1++m2,by rw [e2,Array.append_assoc]⟩
 ·obtain⟨m,hn,hl⟩:=I.loc;refine⟨m,ns m hn,fun i x v e1 e2 e3=>?_⟩;obtain⟨u,r,l⟩:=hl i x v e1 e2 e3;refine⟨u,r,?_⟩;rcases l with l|⟨k,c,e,z⟩
  ·exact .inl l
  ·exact .inr ⟨k,c,e,cellK x c e _ z⟩
 ·obtain⟨v,z⟩:=I.cell x c e;exact⟨v,cellK x c e v z⟩
 ·obtain⟨m,⟨o,_,_,ho,_⟩,_⟩:=I.loc;exact free _ o (fun z=>(hch _ z).2.1 rfl) ho I.free
 ·obtain⟨v,o,ho,hd⟩:=I.cell x c e;exact free c o (fun z=>(hch c z).2.2.1 x c e rfl) ho (I.freeC x c e)
 ·obtain⟨e,n,ne,nf,d⟩:=I.pin p hp;have nch:p.1 ∉ ch:=fun z=>(hch p.1 z).2.2.2 p hp rfl;exact⟨keep p.1 p.2 ne nf nch e n,free p.1 p.2 nch e n,ne,nf,d⟩
theorem Inv.un{t':Nat}(I:Inv X pins σ H s)(u:Un X.fs [] H H' s.heap h')(hok:HOk X.prog X.w H' h'):Inv X pins σ H' { s with heap:=h',toks:=t' }:=by
 obtain⟨m,⟨o,es,ep,ho,r⟩,_⟩:=id I.loc;obtain⟨sl,hL⟩:=u.any ho I.free (by simp);exact I.step (g':=s.gens) (d':=s.drawn) (ch:=[]) (fun _ z=>nomatch z) (fun b o _ hb _ e n=>u.keep b o e n hb (by simp)) (fun b o _ hb _ e n=>u.slot b o e n hb (by simp)) (fun b o _ e n=>u.free b o e n (by simp)) (fun b o _ e=>u.there b o e (by simp)) u.tups u.frzs u.tbls (fun m' hm=>by
  obtain⟨o',es',ep',ho',r'⟩:=hm;rw [ho] at ho';cases ho';exact⟨_,es',ep',hL,r'⟩) hok I.bare
theorem Inv.call{g':Array GenState}{t':Nat}{d':Drawn}{ch:List Addr}(I:Inv X pins σ H s)(u:Un (nq X.stack) ch H H' s.heap h')(hok:HOk X.prog X.w H' h')(hg:AllBare g')
  (hch:∀ b∈ch,(b∈X.ex\/X.s₀.heap.objs.size<=b)/\b≠X.env.locals/\(∀ x c,X.env.cells.lookup x=some c->c≠b)/\∀ p∈X.pn++pins,p.1≠b) :
  Inv X pins σ H' { s with heap:=h',gens:=g',drawn:=d',toks:=t' }:=by
 obtain⟨m,⟨o,es,ep,ho,r⟩,_⟩:=id I.loc;obtain⟨sl,hL⟩:=u.any ho I.free fun z=>(hch _ z).2.1 rfl;exact I.step (ch:=ch) hch (fun b o hL hb hc e n=>u.keep b o e n (fun z=>(ai.mp (I.stkSub b z)).elim hL hb) hc) (fun b o _ _ hc e n=>u.any e n hc) (fun b o hc e n=>u.free b o e n hc) (fun b o hc e=>u.there b o e hc) u.tups u.frzs u.tbls (fun m' hm=>by
  obtain⟨o',es',ep',ho',r'⟩:=hm;rw [ho] at ho';cases ho';exact⟨_,es',ep',hL,r'⟩) hok hg
theorem Inv.turned{t':Nat}{it:Addr}(I:Inv X pins σ H s)(k:∀ b o,b≠it->s.heap.get? b=some o->h'.get? b=some o)(hn:H it=none)(hL:it≠X.env.locals)
  (h1:it∈X.ex\/X.s₀.heap.objs.size<=it) (h2:∀ x c,X.env.cells.lookup x=some c->c≠it) (h3:∀ p∈X.pn++pins,p.1≠it):Inv X pins σ H { s with heap:=h',toks:=t' }:=by
 have nit:∀ b u,H b=some u->b≠it:=fun b u e z=>by rw [z,hn] at e;cases e
 refine I.step (g':=s.gens) (d':=s.drawn) (ch:=[it]) (fun b hb=>?_) (fun b o _ _ hc e _=>k b o (fun z=>hc (by simp [z])) e) (fun b o _ _ hc e _=>⟨o.slots,k b o (fun z=>hc (by simp [z])) e⟩) (fun _ _ _ _ n=>n)
  (fun b o hc e=>⟨o,k b o (fun z=>hc (by simp [z])) e⟩) (fun _ _ e=>e) (fun _ _ _ e=>e) (fun b ps e=>⟨#[],by rw [e];simp⟩) (fun m hm=>?_) (fun b u e=>?_) I.bare
 ·have e:b=it:=by simpa using hb
  subst e;exact⟨h1,hL,h2,h3⟩
 ·obtain⟨o,es,ep,ho,r⟩:=hm;exact⟨o,es,ep,k _ o (Ne.symm hL) ho,r⟩
 ·refine (I.hok b u e).stay (fun c v hc q=>k c v ?_ q) (fun _ q=>q) fun _ _ q=>q;rcases hc with z|z
  ·rw [z];exact nit b u e
  ·exact nit c _ z
theorem Inv.tok(I:Inv X pins σ H s)(t:Nat):Inv X pins σ H { s with toks:=t }:=I.un (h':=s.heap) (t':=t) Un.refl I.hok
theorem Inv.kept{t':Nat}(I:Inv X pins σ H s)(k:∀ b u,s.heap.get? b=some u->h'.get? b=some u):Inv X pins σ H { s with heap:=h',toks:=t' }:=I.un (Un.kept k) (I.hok.kept k)
theorem Inv.laid{a:Addr}{o:HO}{t':Nat}(I:Inv X pins σ H s)(k:∀ b u,s.heap.get? b=some u->h'.get? b=some u)(hp:s.heap.objs.size<=a)(new:ObjOk X.prog X.w (jr H a o) h' a o) :
  Inv X pins σ (jr H a o) { s with heap:=h',toks:=t' }:=I.un (Un.laid k hp (I.hok.fresh hp)) (I.hok.laid k hp new)
theorem Inv.write{x e:Addr}{o:HO}{t':Nat}(I:Inv X pins σ H s)(mu:A2 (H x))(he:e=x\/H e=some (.own x))(k:∀ b u,b≠e->s.heap.get? b=some u->h'.get? b=some u)(heo:∃ u,h'.get? e=some u)
  (new:ObjOk X.prog X.w (jr H x o) h' x o):Inv X pins σ (jr H x o) { s with heap:=h',toks:=t' }:=I.un (Un.write mu he k heo) (I.hok.write mu he k heo new)
theorem Inv.pins_of{pins':List (Addr×Obj)}(I:Inv X pins σ H s)(h:∀ p∈pins',s.heap.get? p.1=some p.2/\H p.1=none/\p.1≠X.env.locals/\p.1 ∉ X.fs/\∀ v,p.2.data ≠ .cell v):Inv X pins' σ H s :=
 ⟨I.ok,I.os,I.bare,I.base,I.loc,I.cell,I.free,I.freeC,fun p hp=>(bw.mp hp).elim (fun z=>I.pin p (dm _ z)) (h p),I.hok,I.len⟩
theorem ng{N:List Str}(hN:N.Nodup){i j:Nat}{x:Str}(a:N[i]? = some x)(b:N[j]? = some x):i=j:=by
 obtain⟨h1,e1⟩:=av.mp a;obtain⟨h2,e2⟩:=av.mp b;exact (List.getElem_inj hN).mp (e1.trans e2.symm)
theorem nR{M:Model}{A:Around}{E:Value->Shared->Prop}{i:Nat}{x:Str}{v:V}{u:Value}{Q:Unit->Shared->Prop}(I:Inv X pins σ H s)(hN:X.N.Nodup)(hi:X.N[i]? = some x)(hx:tX X.env.scope x)(r:RelV v u)
  (h:∀ s',Inv X pins (σ.set i (some v)) H s'->(∃ a,Heap.SameBut a s.heap s'.heap/\(a=X.env.locals\/X.env.cells.lookup x=some a))->Q () s') (hf:X.fn x=true\/X.env.scope.names.lookup x=some .local:=by first|exact .inl rfl|exact .inr rfl|assumption):wpAny M A (storeName X.env x u) Q E s:=by
 obtain⟨m,hn,hl⟩:=id I.loc;have hcls:(X.env.scope.kind == .class || (X.env.scope.kind == .module && X.env.locals != X.env.globals))=false:=by rw [I.ok.kind];rfl
 have hiσ:i<σ.length:=by rw [I.len];exact (av.mp hi).1
 have cne:=I.cne;have tracked:∀{a:Addr} {h':Heap},(∃ o,s.heap.get? a=some o/\H a=none)->Heap.SameBut a s.heap h'->HOk X.prog X.w H h':=fun {a h'} ha hs b ob e=>by
  obtain⟨_,_,hfree⟩:=ha;refine (I.hok b ob e).stay (fun c w' hc q=>(hs.2 c ?_).trans q) (fun _ q=>q) fun _ _ q=>q;rintro rfl;rcases hc with rfl|hc
  ·rw [hfree] at e;cases e
  ·rw [hfree] at hc;cases hc
 rcases hx with hk|hk
 ·refine wpAny_storeName_local hk hn (fun h' hn' hs=>?_) hcls;obtain⟨oL,_,_,hoL,_⟩:=id hn;refine h _ ⟨I.ok,I.os,I.bare,⟨fun b o e n hb hx=>?_,fun b o e n hb hx=>?_,I.base.free,fun b o e hx=>?_,I.base.tups,I.base.frzs,I.base.tbls⟩,⟨_,hn',fun j y v' e1 e2 e3=>?_⟩,fun y c e=>?_,I.free,I.freeC,fun p hp=>?_,tracked ⟨oL,hoL,I.free⟩ hs,by simpa using I.len⟩ ⟨_,hs,.inl rfl⟩
  ·exact (hs.2 b (aA (ak (Heap.lt_size e) I.ok.above))).trans (I.base.keep b o e n hb hx)
  ·obtain⟨sl,e1⟩:=I.base.slot b o e n hb hx;exact⟨sl,(hs.2 b (aA (ak (Heap.lt_size e) I.ok.above))).trans e1⟩
  ·obtain⟨o',e1⟩:=I.base.there b o e hx;exact⟨o',(hs.2 b (aA (ak (Heap.lt_size e) I.ok.above))).trans e1⟩
  ·by_cases hj:j=i
   ·subst hj;rw [hi] at e1;cases e1;rw [bu hiσ] at e2;cases e2;exact⟨u,r,.inl ⟨hk,by simp⟩⟩
   ·rw [au (Ne.symm hj)] at e2;obtain⟨u',r',q⟩:=hl j y v' e1 e2 e3;refine⟨u',r',?_⟩;rcases q with⟨k,e⟩|⟨k,c,e,z⟩
    ·refine .inl ⟨k,?_⟩;have:y≠x:=fun e=>hj (ng hN e1 (e ▸ hi));simp [this,e]
    ·exact .inr ⟨k,c,e,z.sameBut hs (cne y c e)⟩
  ·obtain⟨w',z⟩:=I.cell y c e;exact⟨w',z.sameBut hs (cne y c e)⟩
  ·obtain⟨e,n,ne,nf,d⟩:=I.pin p hp;exact⟨(hs.2 p.1 ne).trans e,n,ne,nf,d⟩
 ·have hfn:X.fn x=true:=by
   rcases hf with z|z
   ·exact z
   ·rw [z] at hk;cases hk
  obtain⟨c,hc⟩:=I.ok.has x (.inl hk);obtain⟨w',z⟩:=I.cell x c hc;refine wpAny_storeName_cell I.ok.kind hk hc z (fun h' hc' hs=>?_);obtain⟨oc,hoc,hocd⟩:=id z;refine h { s with heap:=h' } ⟨I.ok,I.os,I.bare,⟨fun b o e n hb hx=>?_,fun b o e n hb hx=>?_,I.base.free,fun b o e hx=>?_,I.base.tups,I.base.frzs,I.base.tbls⟩,⟨m,hn.sameBut hs (Ne.symm (cne x c hc)),fun j y v' e1 e2 e3=>?_⟩,fun y c' e=>?_,I.free,I.freeC,fun p hp=>?_,tracked ⟨oc,hoc,I.freeC x c hc⟩ hs,by simpa using I.len⟩ ⟨c,hs,.inr hc⟩
  ·exact (hs.2 b (aA (ak (Heap.lt_size e) (I.ok.cab x c hfn hc)))).trans (I.base.keep b o e n hb hx)
  ·obtain⟨sl,e1⟩:=I.base.slot b o e n hb hx;exact⟨sl,(hs.2 b (aA (ak (Heap.lt_size e) (I.ok.cab x c hfn hc)))).trans e1⟩
  ·obtain⟨o',e1⟩:=I.base.there b o e hx;exact⟨o',(hs.2 b (aA (ak (Heap.lt_size e) (I.ok.cab x c hfn hc)))).trans e1⟩
  ·by_cases hj:j=i
   ·subst hj;rw [hi] at e1;cases e1;rw [bu hiσ] at e2;cases e2;exact⟨u,r,.inr ⟨.inl hk,c,hc,hc'⟩⟩
   ·rw [au (Ne.symm hj)] at e2;obtain⟨u',r',q⟩:=hl j y v' e1 e2 e3;refine⟨u',r',?_⟩;rcases q with q|⟨k,c',e,z'⟩
    ·exact .inl q
    ·refine .inr ⟨k,c',e,z'.sameBut hs ?_⟩;rintro rfl;exact hj (ng hN e1 (I.ok.inj _ _ _ e hc ▸ hi))
  ·by_cases hcc:c'=c
   ·subst hcc;exact⟨_,hc'⟩
   ·obtain⟨w2,z2⟩:=I.cell y c' e;exact⟨w2,z2.sameBut hs hcc⟩
  ·obtain⟨e,n,ne,nf,d⟩:=I.pin p hp;refine⟨(hs.2 p.1 ?_).trans e,n,ne,nf,d⟩;intro q;rw [q,hoc] at e;have q':oc=p.2:=Option.some.inj e;exact d w' (by rw [← q'];exact hocd)
theorem jU{M:Model}{A:Around}{E:Value->Shared->Prop}{i:Nat}{x:Str}{v:V}{u:Value}{Q:Unit->Shared->Prop}(I:Inv X pins σ H s)(hN:X.N.Nodup)(hi:X.N[i]? = some x)(hx:tX X.env.scope x)(r:RelV v u)
  (h:∀ s',Inv X pins (σ.set i (some v)) H s'->Q () s') (hf:X.fn x=true\/X.env.scope.names.lookup x=some .local:=by first|exact .inl rfl|exact .inr rfl|assumption):wpAny M A (storeName X.env x u) Q E s :=
 nR I hN hi hx r (fun s' I' _=>h s' I') hf
theorem Inv.call'{s':Shared}{ch:List Addr}(I:Inv X pins σ H s)(ho:s'.os=s.os)(u:Un (nq X.stack) ch H H' s.heap s'.heap)(hok:HOk X.prog X.w H' s'.heap)(hg:AllBare s'.gens)
  (hch:∀ b∈ch,(b∈X.ex\/X.s₀.heap.objs.size<=b)/\b≠X.env.locals/\(∀ x c,X.env.cells.lookup x=some c->c≠b)/\∀ p∈X.pn++pins,p.1≠b):Inv X pins σ H' s':=by
 obtain⟨h',g',d',t',o'⟩:=s';have e:o'=s.os:=ho;subst e;exact I.call (g':=g') (t':=t') (d':=d') u hok hg hch
end
abbrev XK:=Value->Option Addr->Hp->Prop
abbrev St:=List (Option V)
abbrev VK:=V->Hp->Prop
abbrev TE:=St->Hp->VK->Prop
abbrev TT:=St->Hp->(Bool->Hp->Prop)->Prop
abbrev TA:=St->Hp->(List V->Hp->Prop)->Prop
structure Ends where
 nx:St->Hp->Prop
 rt:VK
 bk:St->Hp->Prop:=fun _ _=>False
 ct:St->Hp->Prop:=fun _ _=>False
abbrev TS:=Ends->St->Hp->Prop
def EP(X:Cx)(pins:List (Addr×Obj))(σ:St)(Q:VK)(u:Value)(s':Shared):Prop:=∃ v H',Inv X pins σ H' s'/\RelV v u/\Q v H'
def TP(X:Cx)(pins:List (Addr×Obj))(σ:St)(Q:Bool->Hp->Prop)(b:Bool)(s':Shared):Prop:=∃ H',Inv X pins σ H' s'/\Q b H'
def AP(X:Cx)(pins:List (Addr×Obj))(σ:St)(Q:List V->Hp->Prop)(us:List Value)(s':Shared):Prop:=∃ vs H',Inv X pins σ H' s'/\Vals vs us/\Q vs H'
def SP(X:Cx)(pins:List (Addr×Obj))(D:Ends)(f:Flow)(s':Shared):Prop :=
 match f with
 | .next=>∃ σ' H',Inv X pins σ' H' s'/\D.nx σ' H'
 | .brk=>∃ σ' H',Inv X pins σ' H' s'/\D.bk σ' H'
 | .cont=>∃ σ' H',Inv X pins σ' H' s'/\D.ct σ' H'
 | .ret u=>∃ v σ' H',Inv X pins σ' H' s'/\RelV v u/\D.rt v H'
def PE(X:Cx)(e:Expr)(t:TE):Prop :=
 ∀(pins:List (Addr×Obj)) (s:Shared) (σ:St) (H:Hp) (Q:VK),Inv X pins σ H s->t σ H Q->wpAny (model X.prog X.w) X.A (eval e X.env) (EP X pins σ Q) X.xe s
def PT(X:Cx)(e:Expr)(t:TT):Prop :=
 ∀(pins:List (Addr×Obj)) (s:Shared) (σ:St) (H:Hp) (Q:Bool->Hp->Prop),Inv X pins σ H s->t σ H Q->wpAny (model X.prog X.w) X.A (isTrue e X.env (eval e X.env)) (TP X pins σ Q) X.xe s
def PW(X:Cx)(e:Expr)(t:TT):Prop :=
 ∀(whole:Sem Value) (pins:List (Addr×Obj)) (s:Shared) (σ:St) (H:Hp) (Q:Bool->Hp->Prop),Inv X pins σ H s->t σ H Q->wpAny (model X.prog X.w) X.A (isTrue e X.env whole) (TP X pins σ Q) X.xe s
theorem PW.pt{X:Cx}{e:Expr}{t:TT}(h:PW X e t):PT X e t:=h _
def PA(X:Cx)(es:List Expr)(t:TA):Prop :=
 ∀(pos:Pos) (pins:List (Addr×Obj)) (s:Shared) (σ:St) (H:Hp) (Q:List V->Hp->Prop),Inv X pins σ H s->t σ H Q->wpAny (model X.prog X.w) X.A (spliced (backTo pos (starEach es X.env))) (AP X pins σ Q) X.xe s
def PS(X:Cx)(st:Stmt)(t:TS):Prop :=
 ∀(pins:List (Addr×Obj)) (s:Shared) (σ:St) (H:Hp) (D:Ends),Inv X pins σ H s->t D σ H->wpAny (model X.prog X.w) X.A (exec st X.env) (SP X pins D) X.xe s
def PSs(X:Cx)(st:List Stmt)(t:TS):Prop :=
 ∀(pins:List (Addr×Obj)) (s:Shared) (σ:St) (H:Hp) (D:Ends),Inv X pins σ H s->t D σ H->wpAny (model X.prog X.w) X.A (execs st X.env) (SP X pins D) X.xe s
theorem jv{α:Type}{t:Sem α}{Q Q':α->Shared->Prop}{M:Model}{A:Around}{E:Value->Shared->Prop}{s:Shared}(h:wpAny M A t Q E s)(hQ:∀ a s,Q a s->Q' a s):wpAny M A t Q' E s:=wpAny_mono h hQ fun _ _ x=>x
end L2
namespace L2
open PySem PySem.Spec PyProof.Rows
section
variable{X:Cx}
def lC(i:Nat):TE:=fun σ H Q=>∃ v,σ[i]? = some (some v)/\Q v H
def tC(v:V):TE:=fun _ H Q=>Q v H
theorem lh{i:Nat}{x:Str}{pos:Pos}(hN:X.N[i]? = some x)(hv:xn X.env.scope x)(hd:(x == ("__debug__" : Str))=false:=by decide)(hcd:(x == ("__classdict__" : Str))=false:=by decide):PE X (.Name x pos) (lC i):=by
 intro pins s σ H Q I h;obtain⟨v,e,h⟩:=h;obtain⟨m,hn,hl⟩:=I.loc;obtain⟨u,r,l⟩:=hl i x v hN e hv;have fin:EP X pins σ Q u s:=⟨v,H,I,r,h⟩;rcases l with⟨hk,hm⟩|⟨hk,c,hc,hcell⟩
 ·exact wpAny_Name (wpAny_loadName_local I.ok.kind hk hn hm fin) hd
 ·rcases hk with hk|hk
  ·exact wpAny_Name (wpAny_loadName_cell I.ok.kind hk hc hcell fin) hd
  ·exact wpAny_Name (wpAny_loadName_free I.ok.kind hk hc hcell fin hcd) hd
theorem jj{i j pos}:PE X (.Constant (.int i) j pos) (tC (.int i)):=fun _ _ _ H _ I h=>wpAny_Constant_int ⟨.int i,H,I.tok _,⟨_,rfl⟩,h⟩
theorem uF{b j pos}:PE X (.Constant (.bool b) j pos) (tC (.bl b)):=fun _ _ _ H _ I h=>Constant_bool ⟨.bl b,H,I,rfl,h⟩
theorem yG{j pos}:PE X (.Constant .none j pos) (tC .non):=fun _ _ _ H _ I h=>Constant_none ⟨.non,H,I,rfl,h⟩
theorem oH{x j pos}:PE X (.Constant (.str x) j pos) (tC (.str x)):=fun _ _ _ H _ I h=>Calls.Constant_str ⟨.str x,H,I.tok _,⟨_,rfl⟩,h⟩
def Gl(X:Cx)(x:Str):Prop:=X.env.kindOf x=some .globalImplicit
theorem kN{E:Value->Shared->Prop}{pins:List (Addr×Obj)}{s:Shared}{σ:St}{H:Hp}{x:Str}{u:Value}{pos:Pos}{Q:Value->Shared->Prop}(I:Inv X pins σ H s)(hg:Gl X x)(hm:X.mg x=some u)(h:Q u s)
  (hd:(x == ("__debug__" : Str))=false:=by decide):wpAny (model X.prog X.w) X.A (eval (.Name x pos) X.env) Q E s :=
 Calls.Name_function_global I.ok.kind hg (Calls.loadGlobal_global (by rw [I.ok.glob];exact I.mod.glob.keeps I.bk) hm h) hd
theorem kA{E:Value->Shared->Prop}{pins:List (Addr×Obj)}{s:Shared}{σ:St}{H:Hp}{x:Str}{u:Value}{pos:Pos}{Q:Value->Shared->Prop}(I:Inv X pins σ H s)(hg:Gl X x)(hm:X.mg x=none)(hv:bootBuiltins x=some u)(h:Q u s)
  (hn:x ≠ "__name__" := by decide) (hd:(x == ("__debug__" : Str))=false:=by decide):wpAny (model X.prog X.w) X.A (eval (.Name x pos) X.env) Q E s:=by
 obtain⟨mb,h1,h2⟩:=I.mod.blt;exact Calls.Name_function_global I.ok.kind hg (Calls.loadGlobal_builtin (by rw [I.ok.glob];exact I.mod.glob.keeps I.bk) hm (by rw [I.ok.blt];exact h1.keeps I.bk) ((h2 x hn).trans hv) h) hd
theorem oI{x:Str}{v:V}{u:Value}{pos:Pos}(hg:Gl X x)(hm:X.mg x=some u)(r:RelV v u)(hd:(x == ("__debug__" : Str))=false:=by decide):PE X (.Name x pos) (tC v) :=
 fun _ _ _ H _ I h=>kN I hg hm ⟨v,H,I,r,h⟩ hd
theorem jM{x:Str}{v:V}{u:Value}{pos:Pos}(hg:Gl X x)(hm:X.mg x=none)(hv:bootBuiltins x=some u)(r:RelV v u)(hn:x ≠ "__name__" := by decide)(hd:(x == ("__debug__" : Str))=false:=by decide):PE X (.Name x pos) (tC v) :=
 fun _ _ _ H _ I h=>kA I hg hm hv ⟨v,H,I,r,h⟩ hn hd
def CM(ta tb:TE)(k:Int->Int->Hp->Prop):St->Hp->Prop:=fun σ H=>ta σ H fun x H1=>tb σ H1 fun y H2=>∃ i j,x = .int i/\y = .int j/\k i j H2
variable{a b:Expr}{ta tb:TE}{pos:Pos}
def CK(p:Int->Int->Bool)(ta tb:TE):TE:=fun σ H Q=>CM ta tb (fun i j H2=>Q (.bl (p i j)) H2) σ H
variable{tA tB':TT}{rest:List Expr}
def zY(t u:TT):TT:=fun σ H Q=>t σ H fun c H1=>if c=true then u σ H1 Q else Q false H1
def Cg(t u:TT):TT:=fun σ H Q=>t σ H fun c H1=>if c=true then Q true H1 else u σ H1 Q
def Bg(t:TT):TT:=fun σ H Q=>t σ H fun c H1=>Q (!c) H1
theorem rP(ha:PT X a tA):PW X (.BoolOp .And [a] pos) tA:=by
 intro wh pins s σ H Q I h;refine isTrue_and (jv (ha pins s σ H Q I h) fun c s1 e=>?_);cases c with
 | true=>exact isTrue_and_nil e
 | false=>exact e
theorem yy(ha:PT X a tA):PW X (.BoolOp .Or [a] pos) tA:=by
 intro wh pins s σ H Q I h;refine isTrue_or (jv (ha pins s σ H Q I h) fun c s1 e=>?_);cases c with
 | false=>exact isTrue_or_nil e
 | true=>exact e
theorem uu(ha:PT X a tA)(hb:PW X (.BoolOp .And (b::rest) pos) tB'):PW X (.BoolOp .And (a::b::rest) pos) (zY tA tB'):=by
 intro wh pins s σ H Q I h;refine isTrue_and (jv (ha pins s σ H _ I h) fun c s1 ⟨H1,I1,q1⟩=>?_);cases c with
 | true=>exact hb wh pins s1 σ H1 Q I1 q1
 | false=>exact⟨H1,I1,q1⟩
theorem Ak(ha:PT X a tA)(hb:PW X (.BoolOp .Or (b::rest) pos) tB'):PW X (.BoolOp .Or (a::b::rest) pos) (Cg tA tB'):=by
 intro wh pins s σ H Q I h;refine isTrue_or (jv (ha pins s σ H _ I h) fun c s1 ⟨H1,I1,q1⟩=>?_);cases c with
 | true=>exact⟨H1,I1,q1⟩
 | false=>exact hb wh pins s1 σ H1 Q I1 q1
theorem yz(ha:PT X a tA):PT X (.UnaryOp .Not a pos) (Bg tA):=by
 intro pins s σ H Q I h;exact isTrue_not (ha pins s σ H (fun c H1=>Q (!c) H1) I h)
def zX(ta tb:TE):TE:=fun σ H Q=>ta σ H fun x H1=>∃ c,x = .bl c/\if c=true then tb σ H1 Q else Q (.bl false) H1
def Bf(ta tb:TE):TE:=fun σ H Q=>ta σ H fun x H1=>∃ c,x = .bl c/\if c=true then Q (.bl true) H1 else tb σ H1 Q
def zU(ta:TE):TE:=fun σ H Q=>ta σ H fun x H1=>∃ c,x = .bl c/\Q (.bl (!c)) H1
theorem qL{op}{t:TE}(h:PE X a t):PE X (.BoolOp op [a] pos) t:=fun pins s σ H Q I hw=>BoolOp_one (h pins s σ H Q I hw)
theorem qO(ha:PE X a ta)(hb:PE X (.BoolOp .And (b::rest) pos) tb):PE X (.BoolOp .And (a::b::rest) pos) (zX ta tb):=by
 intro pins s σ H Q I h;refine BoolOp_and (jv (ha pins s σ H _ I h) fun v s1 ⟨x,H1,I1,r1,q1⟩=>?_);obtain⟨c,rfl,q1⟩:=q1;cases r1;refine wpAny_truthy_bool ?_;cases c with
 | true=>exact hb pins s1 σ H1 Q I1 q1
 | false=>exact⟨.bl false,H1,I1,rfl,q1⟩
theorem Am(ha:PE X a ta)(hb:PE X (.BoolOp .Or (b::rest) pos) tb):PE X (.BoolOp .Or (a::b::rest) pos) (Bf ta tb):=by
 intro pins s σ H Q I h;refine BoolOp_or (jv (ha pins s σ H _ I h) fun v s1 ⟨x,H1,I1,r1,q1⟩=>?_);obtain⟨c,rfl,q1⟩:=q1;cases r1;refine wpAny_truthy_bool ?_;cases c with
 | false=>exact hb pins s1 σ H1 Q I1 q1
 | true=>exact⟨.bl true,H1,I1,rfl,q1⟩
theorem yF(ha:PE X a ta):PE X (.UnaryOp .Not a pos) (zU ta):=by
 intro pins s σ H Q I h;refine UnaryOp_ (jv (ha pins s σ H _ I h) fun v s1 ⟨x,H1,I1,r1,q1⟩=>?_);obtain⟨c,rfl,q1⟩:=q1;cases r1;exact not_of (wpAny_truthy_bool ⟨.bl (!c),H1,I1,rfl,q1⟩)
def CJ(t:TT)(ta tb:TE):TE:=fun σ H Q=>t σ H fun c H1=>if c=true then ta σ H1 Q else tb σ H1 Q
theorem uD{c:Expr}(hc:PT X c tA)(ha:PE X a ta)(hb:PE X b tb):PE X (.IfExp c a b pos) (CJ tA ta tb):=by
 intro pins s σ H Q I h;refine wpAny_IfExp (jv (hc pins s σ H _ I h) fun d s1 ⟨H1,I1,q1⟩=>?_);cases d with
 | true=>exact ha pins s1 σ H1 Q I1 q1
 | false=>exact hb pins s1 σ H1 Q I1 q1
end
end L2
namespace L2
open PySem PySem.Spec PyProof.Rows
def SqL(K:Frag)(H:Hp)(a:Addr)(xs:List V):Prop :=
 Rd H a (.lst xs) \/
  ∃(o:Obj) (its:Array Value) (n:Nat),K.lookup a=some o/\o.cls = .type "list" /\ o.dict=none/\o.data = .seq its n/\its.size<=sizeLine/\Vals xs its.toList
def SqT(K:Frag)(H:Hp)(a:Addr)(xs:List V):Prop :=
 Rd H a (.tup xs) \/
  ∃(o:Obj) (its:Array Value) (n:Nat),K.lookup a=some o/\o.cls = .type "tuple" /\ o.data = .seq its n/\its.size<=sizeLine/\Vals xs its.toList
def B5:Value->Option V
 | .none=>some .non
 | .bool b=>some (.bl b)
 | .int i _=>some (.int i)
 | .str x _=>some (.str x)
 | .bytes b _=>some (.byt b)
 | .float b _=>some (.flt b)
 | .ref a=>some (.ref a)
 | .type n=>some (.ty n)
 | _=>none
theorem RelV.abs{x:V}{u:Value}(r:RelV x u):B5 u=some x:=by
 cases x with
 | non=>cases r;rfl
 | bl _=>cases r;rfl
 | int _=>obtain⟨t,rfl⟩:=r;rfl
 | str _=>obtain⟨t,rfl⟩:=r;rfl
 | byt _=>obtain⟨t,rfl⟩:=r;rfl
 | flt _=>obtain⟨t,rfl⟩:=r;rfl
 | ref _=>cases r;rfl
 | ty _=>cases r;rfl
theorem RelV.inj{x y:V}{u:Value}(r:RelV x u)(q:RelV y u):x=y:=Option.some.inj (r.abs.symm.trans q.abs)
theorem Vals.inj:∀{xs ys:List V} {us:List Value},Vals xs us->Vals ys us->xs=ys
 | _,_,_,.nil,.nil=>rfl
 | _,_,_,.cons r t,.cons r' t'=>by rw [r.inj r',Vals.inj t t']
section
variable{X:Cx}{pins:List (Addr×Obj)}{σ:St}{H:Hp}{s:Shared}{a:Addr}{xs ys:List V}
theorem SqL.of{K:Frag}(h:H a=some (.lst xs)):SqL K H a xs:=.inl (.inl h)
theorem SqT.of{K:Frag}(h:H a=some (.tup xs)):SqT K H a xs:=.inl (.inl h)
theorem Inv.list(I:Inv X pins σ H s)(h:SqL X.K H a xs):∃ its:List Value,Vals xs its/\PlainL s.heap a its.toArray/\xs.length<=sizeLine:=by
 rcases h with h|⟨o,its,n,hk,hc,hd,hs,hz,r⟩
 ·obtain⟨z,its,n,r,e⟩:=h.ok I.hok;exact⟨its,r,⟨_,n,e,rfl,rfl,rfl⟩,z⟩
 ·refine⟨its.toList,r,⟨o,n,I.kIn a o hk,hc,hd,by simpa using hs⟩,?_⟩;have e:=r.length;simp only [bP] at e
  (first|lia|omega)
theorem Inv.tuple(I:Inv X pins σ H s)(h:SqT X.K H a xs):∃ its:List Value,Vals xs its/\IsTup s.heap a its.toArray/\xs.length<=sizeLine:=by
 rcases h with h|⟨o,its,n,hk,hc,hs,hz,r⟩
 ·obtain⟨z,its,r,p⟩:=h.ok I.hok;exact⟨its,r,p,z⟩
 ·refine⟨its.toList,r,⟨o,I.kIn a o hk,hc,n,by simpa using hs⟩,?_⟩;have e:=r.length;simp only [bP] at e
  (first|lia|omega)
theorem Inv.list_inj(I:Inv X pins σ H s)(h:SqL X.K H a xs)(h':SqL X.K H a ys):xs=ys:=by
 obtain⟨its,r,⟨o,n,e,_,_,d⟩,_⟩:=I.list h;obtain⟨its',r',⟨o',n',e',_,_,d'⟩,_⟩:=I.list h';rw [e] at e';cases e';rw [d] at d';injection d' with d1 _;have:its=its':=by simpa using congrArg Array.toList d1
 subst this;exact r.inj r'
theorem Inv.tuple_inj(I:Inv X pins σ H s)(h:SqT X.K H a xs)(h':SqT X.K H a ys):xs=ys:=by
 obtain⟨its,r,⟨o,e,_,n,d⟩,_⟩:=I.tuple h;obtain⟨its',r',⟨o',e',_,n',d'⟩,_⟩:=I.tuple h';rw [e] at e';cases e';rw [d] at d';injection d' with d1 _;have:its=its':=by simpa using congrArg Array.toList d1
 subst this;exact r.inj r'
end
abbrev Cx.wish(X:Cx)(E:Value->Shared->Prop):Cx:={ X with xe:=E }
abbrev Cx.nox(X:Cx):Cx:=X.wish fun _ _=>False
theorem Cx.Ok.wish{X:Cx}(ok:X.Ok)(E:Value->Shared->Prop):(X.wish E).Ok :=
 ⟨ok.mod,ok.kind,ok.glob,ok.blt,ok.above,ok.inj,ok.has,ok.cab,ok.hd,ok.frames,ok.stk,ok.exf,ok.bs,ok.bsz,ok.noex,ok.exfs,ok.funs,ok.frf,ok.sr,ok.rn⟩
theorem Cx.Ok.unwish{X:Cx}{E:Value->Shared->Prop}(ok:(X.wish E).Ok):X.Ok :=
 ⟨ok.mod,ok.kind,ok.glob,ok.blt,ok.above,ok.inj,ok.has,ok.cab,ok.hd,ok.frames,ok.stk,ok.exf,ok.bs,ok.bsz,ok.noex,ok.exfs,ok.funs,ok.frf,ok.sr,ok.rn⟩
section
variable{X:Cx}{pins:List (Addr×Obj)}{σ:St}{H:Hp}{s:Shared}{E:Value->Shared->Prop}
theorem Inv.wish(I:Inv X pins σ H s)(E:Value->Shared->Prop):Inv (X.wish E) pins σ H s:=⟨I.ok.wish E,I.os,I.bare,I.base,I.loc,I.cell,I.free,I.freeC,I.pin,I.hok,I.len⟩
theorem Inv.unwish(I:Inv (X.wish E) pins σ H s):Inv X pins σ H s:=⟨I.ok.unwish,I.os,I.bare,I.base,I.loc,I.cell,I.free,I.freeC,I.pin,I.hok,I.len⟩
theorem SP.unwish{D:Ends}{f:Flow}{s':Shared}(h:SP (X.wish E) pins D f s'):SP X pins D f s':=by
 cases f with
 | next=>obtain⟨σ',H',I,q⟩:=h;exact⟨σ',H',I.unwish,q⟩
 | brk=>obtain⟨σ',H',I,q⟩:=h;exact⟨σ',H',I.unwish,q⟩
 | cont=>obtain⟨σ',H',I,q⟩:=h;exact⟨σ',H',I.unwish,q⟩
 | ret u=>obtain⟨v,σ',H',I,r,q⟩:=h;exact⟨v,σ',H',I.unwish,r,q⟩
theorem PSs.nox{st:List Stmt}{t:TS}(h:PSs X.nox st t):PSs X st t:=fun pins s σ H D I hw =>
 wpAny_mono (h pins s σ H D (I.wish _) hw) (fun _ _ q=>q.unwish) fun _ _ z=>False.elim z
end
section
variable{X:Cx}{st:Stmt}{rest:List Stmt}{t u:TS}{e:Expr}{te:TE}{pos:Pos}
def xv:TS:=fun D σ H=>D.nx σ H
def zQ(t u:TS):TS:=fun D σ H=>t { D with nx:=u D } σ H
theorem pss_nil:PSs X [] xv:=fun _ _ σ H _ I h=>wpAny_execs_nil ⟨σ,H,I,h⟩
theorem jP(h1:PS X st t)(h2:PSs X rest u):PSs X (st::rest) (zQ t u):=by
 intro pins s σ H D I h;refine wpAny_execs_cons (jv (h1 pins s σ H { D with nx:=u D } I h) fun f s1 q=>?_);cases f with
 | next =>
  obtain⟨σ',H',I',q⟩:=q;exact h2 pins s1 σ' H' D I' q
 | ret v=>exact q
 | brk=>exact q
 | cont=>exact q
theorem jC(h1:PS X st t):PSs X [st] t:=by
 intro pins s σ H D I h;refine wpAny_execs_cons (jv (h1 pins s σ H D I h) fun f s1 q=>?_);cases f with
 | next=>exact wpAny_execs_nil q
 | ret v=>exact q
 | brk=>exact q
 | cont=>exact q
def ye:TS:=fun D σ H=>D.bk σ H
theorem ps_pass:PS X (.Pass pos) xv:=fun _ _ σ H _ I h=>wpAny_Pass ⟨σ,H,I,h⟩
theorem ps_break:PS X (.Break pos) ye:=fun _ _ σ H _ I h=>wpAny_Break ⟨σ,H,I,h⟩
theorem Inv.quiet{pins:List (Addr×Obj)}{σ:St}{H:Hp}{s:Shared}(I:Inv X pins σ H s):interactive X.env=false:=by simp [interactive,I.ok.kind]
def zV(te:TE):TS:=fun D σ H=>te σ H fun _ H1=>D.nx σ H1
theorem rQ(he:PE X e te)(hs:swapsWith e none pos.line X.env=pure false:=by rfl):PS X (.Expr e pos) (zV te):=by
 intro pins s σ H D I h;exact wpAny_Expr_any (jv (he pins s σ H _ I h) fun v s1 ⟨x,H1,I1,r1,q1⟩=>⟨σ,H1,I1,q1⟩) I.quiet hs
def Be(te:TE):TS:=fun D σ H=>te σ H D.rt
theorem kr(he:PE X e te):PS X (.Return (some e) pos) (Be te):=by
 intro pins s σ H D I h;exact wpAny_Return_some (jv (he pins s σ H _ I h) fun v s1 ⟨x,H1,I1,r1,q1⟩=>⟨x,σ,H1,I1,r1,q1⟩)
def zR:TS:=fun D _ H=>D.rt .non H
theorem ps_retN:PS X (.Return none pos) zR:=fun _ _ σ H _ I h=>wpAny_Return_none ⟨.non,σ,H,I,rfl,h⟩
def Bi(c:TT)(t u:TS):TS:=fun D σ H=>c σ H fun b H1=>if b=true then t D σ H1 else u D σ H1
theorem m9{c:Expr}{a b:List Stmt}{tc:TT}(hc:PT X c tc)(ha:PSs X a t)(hb:PSs X b u):PS X (.If c a b pos) (Bi tc t u):=by
 intro pins s σ H D I h;refine wpAny_If (jv (hc pins s σ H _ I h) fun d s1 ⟨H1,I1,q1⟩=>?_);cases d with
 | true=>exact ha pins s1 σ H1 D I1 q1
 | false=>exact hb pins s1 σ H1 D I1 q1
end
abbrev TG:=V->St->Hp->(St->Hp->Prop)->Prop
abbrev xT:=List V->St->Hp->(St->Hp->Prop)->Prop
def PG(X:Cx)(target:Expr)(t:TG):Prop :=
 ∀(pins:List (Addr×Obj)) (s:Shared) (σ:St) (H:Hp) (v:V) (u:Value) (Q:St->Hp->Prop),Inv X pins σ H s->RelV v u->t v σ H Q ->
  wpAny (model X.prog X.w) X.A (assign target X.env u) (fun _ s'=>∃ σ' H',Inv X pins σ' H' s'/\Q σ' H') X.xe s
def AS(X:Cx)(ts:List Expr)(t:xT):Prop :=
 ∀(pins:List (Addr×Obj)) (s:Shared) (σ:St) (H:Hp) (vs:List V) (us:List Value) (Q:St->Hp->Prop),Inv X pins σ H s->Vals vs us->t vs σ H Q ->
  wpAny (model X.prog X.w) X.A (assignInOrder ((assignEach ts X.env).map (·.2)) us) (fun _ s'=>∃ σ' H',Inv X pins σ' H' s'/\Q σ' H') X.xe s
abbrev vL:=V->V->V->Hp->(Hp->Prop)->Prop
def zC(X:Cx)(t:vL):Prop :=
 ∀(pins:List (Addr×Obj)) (s:Shared) (σ:St) (H:Hp) (o i v:V) (ov iv u:Value) (Q:Hp->Prop),Inv X pins σ H s->RelV o ov->RelV i iv->RelV v u->t o i v H Q ->
  wpAny (model X.prog X.w) X.A (setItem ov iv u) (fun _ s'=>∃ H',Inv X pins σ H' s'/\Q H') X.xe s
abbrev AQ:=V->V->Hp->VK->Prop
def Cy(X:Cx)(op:Operator)(t:AQ):Prop :=
 ∀(pins:List (Addr×Obj)) (s:Shared) (σ:St) (H:Hp) (x y:V) (v u:Value) (Q:VK),Inv X pins σ H s->RelV x v->RelV y u->t x y H Q ->
  wpAny (model X.prog X.w) X.A (inplaceOp op v u) (EP X pins σ Q) X.xe s
section
variable{X:Cx}{pos:Pos}
def oh(i:Nat):TG:=fun v σ H Q=>Q (σ.set i (some v)) H
theorem oG{i:Nat}{x:Str}(hN:X.N.Nodup)(hi:X.N[i]? = some x)(hx:tX X.env.scope x)(hf:X.fn x=true\/X.env.scope.names.lookup x=some .local:=by first|exact .inl rfl|exact .inr rfl|assumption):PG X (.Name x pos) (oh i):=by
 intro pins s σ H v u Q I r h;exact wpAny_assign_Name (jU I hN hi hx r (fun s' I'=>⟨_,H,I',h⟩) hf)
def AD:xT:=fun vs σ H Q=>vs=[]/\Q σ H
def xP(t:TG)(u:xT):xT:=fun vs σ H Q=>∃ v r,vs=v::r/\t v σ H fun σ' H'=>u r σ' H' Q
theorem wc:AS X [] AD:=by
 intro pins s σ H vs us Q I r h;obtain⟨e,h⟩:=h;subst e;cases r;exact assignInOrder_nil ⟨σ,H,I,h⟩
theorem uA{e:Expr}{es:List Expr}{t:TG}{u:xT}(h1:PG X e t)(h2:AS X es u)
  (hs:(assignEach (e::es) X.env).map (·.2)=assign e X.env::(assignEach es X.env).map (·.2):=by rfl):AS X (e::es) (xP t u):=by
 intro pins s σ H vs us Q I r h;obtain⟨v,vr,e1,h⟩:=h;subst e1;cases r with
 | cons r rr =>
  rw [hs];refine assignInOrder_cons (jv (h1 pins s σ H _ _ _ I r h) fun _ s1 ⟨σ1,H1,I1,q1⟩=>?_);exact h2 pins s1 σ1 H1 _ _ Q I1 rr q1
def AB(K:Frag)(n:Nat)(t:xT):TG:=fun v σ H Q=>∃ a xs,v = .ref a/\SqT K H a xs/\xs.length=n/\t xs σ H Q
theorem qJ{es:List Expr}{k:Nat}{t:xT}{n:Nat}(hc:X.calm=true)(h:AS X es t)
  (hn:(assignEach es X.env).length=n:=by rfl) (hst:(assignEach es X.env).findIdx? (·.1)=none:=by rfl):PG X (.Tuple es k pos) (AB X.K n t):=by
 intro pins s σ H v u Q I r hw;obtain⟨a,xs,e1,hq,hl,hw⟩:=hw;subst e1;cases r;obtain⟨its,rv,ht,hz⟩:=I.tuple hq;refine assign_Tuple_tuple (I.ok.hd hc) ht (by simp [hn,← hl,rv.length]) hst fun h' hx=>?_;have I1:Inv X pins σ H { s with heap:=h' }:=I.kept (t':=s.toks) fun b o e=>hx b o (aA (Heap.lt_size e)) e;exact h pins _ σ H xs _ Q I1 (by simpa using rv) hw
def AC(to ti:TE)(t:vL):TG:=fun v σ H Q=>to σ H fun o H1=>ti σ H1 fun i H2=>t o i v H2 fun H3=>Q σ H3
theorem ld{o i:Expr}{to ti:TE}{t:vL}(ho:PE X o to)(hi:PE X i ti)(hs:zC X t)
  (ha:∀ v,assign (.Subscript o i pos) X.env v=(do
   let ov ← holding [v] (eval o X.env)
   let iv ← holding [v,ov] (eval i X.env)
   standAt pos
   holding [v,ov,iv] (setItem ov iv v)
   release [v,ov,iv] []):=by intro _;rfl):PG X (.Subscript o i pos) (AC to ti t):=by
 intro pins s σ H v u Q I r h;rw [ha];refine wpAny_bind (wpAny_holding (jv (ho pins s σ H _ I h) fun ov s1 ⟨x,H1,I1,r1,q1⟩=>?_));refine wpAny_bind (wpAny_holding (jv (hi pins s1 σ H1 _ I1 q1) fun iv s2 ⟨y,H2,I2,r2,q2⟩=>?_));refine wpAny_bind (wpAny_standAt (wpAny_bind (wpAny_holding (jv (hs pins s2 σ H2 x y v ov iv u _ I2 r1 r2 r q2) fun _ s3 ⟨H3,I3,q3⟩=>?_))));exact wpAny_release ⟨σ,H3,I3,q3⟩
def yf(te:TE)(g:TG):TS:=fun D σ H=>te σ H fun x H1=>g x σ H1 D.nx
theorem ku{tg e:Expr}{te:TE}{g:TG}(he:PE X e te)(hg:PG X tg g)(hs:swapsWithSole [tg] e pos.line X.env=pure false:=by rfl)(hw:swappedStores [tg] e X.env=pure none:=by rfl)
  (h1:(assignEach [tg] X.env).map (·.2)=[assign tg X.env]:=by rfl):PS X (.Assign [tg] e pos) (yf te g):=by
 intro pins s σ H D I h;refine wpAny_Assign_stores (jv (he pins s σ H _ I h) fun v s1 ⟨x,H1,I1,r1,q1⟩=>?_) hs hw;rw [h1];exact jv (hg pins s1 σ H1 x v _ I1 r1 q1) fun _ s2 q=>q
theorem lc{i:Nat}{x:Str}{e:Expr}{te:TE}{pos':Pos}(hN:X.N.Nodup)(hi:X.N[i]? = some x)(hx:tX X.env.scope x)(he:PE X e te)(hs:swapsWith e (some (.Name x pos')) pos.line X.env=pure false:=by rfl)(hf:X.fn x=true\/X.env.scope.names.lookup x=some .local:=by first|exact .inl rfl|exact .inr rfl|assumption) :
  PS X (.Assign [.Name x pos'] e pos) (yf te (oh i)):=by
 intro pins s σ H D I h;refine wpAny_Assign_Name (jv (he pins s σ H _ I h) fun v s1 ⟨y,H1,I1,r1,q1⟩=>?_) hs;exact jU I1 hN hi hx r1 (fun s2 I2=>⟨_,H1,I2,q1⟩) hf
def yc(i j:Nat)(ta:TA):TS:=fun D σ H=>ta σ H fun vs H1=>∃ v w,vs=[v,w]/\D.nx ((σ.set i (some v)).set j (some w)) H1
theorem uy{i j:Nat}{x y:Str}{a b:Expr}{ta:TA}{px py pt:Pos}{kt k2 pt2}(hc:X.calm=true)(hN:X.N.Nodup)(hi:X.N[i]? = some x)(hj:X.N[j]? = some y)(hij:i≠j)
  (hx:X.env.scope.names.lookup x=some .local) (hy:X.env.scope.names.lookup y=some .local) (ha:PA X [a,b] ta)
  (hw:swappedStores [.Tuple [.Name x px,.Name y py] kt pt] (.Tuple [a,b] k2 pt2) X.env=pure (some [x,y]))
  (hs:swapsWithSole [.Tuple [.Name x px,.Name y py] kt pt] (.Tuple [a,b] k2 pt2) pos.line X.env=pure false:=by rfl) :
  PS X (.Assign [.Tuple [.Name x px,.Name y py] kt pt] (.Tuple [a,b] k2 pt2) pos) (yc i j ta):=by
 intro pins s σ H D I h;rw [exec_Assign_arm];refine wpAny_bind (wpAny_standAt ?_);rw [hs];refine wpAny_bind (wpAny_pure ?_);rw [if_neg (by decide)];refine wpAny_bind (Tuple_ (jv (ha _ pins s σ H _ I h) fun us s1 ⟨vs,H1,I1,r1,q1⟩=>?_));obtain⟨v,w,e1,q1⟩:=q1;subst e1;obtain⟨u1,u2,rfl,rv,rw'⟩:∃ u1 u2,us=[u1,u2]/\RelV v u1/\RelV w u2:=by
  cases r1 with
  | cons p q =>
   cases q with
   | cons p' q' =>
    cases q';exact⟨_,_,rfl,p,p'⟩
 refine wpAny_newObj_type ?_ (by show 2<=sizeLine;decide);have I2:Inv X pins σ H1 { s1 with heap:=s1.heap.push { cls:=.type "tuple",data:=.seq [u1,u2].toArray } }:=I1.kept (t':=s1.toks) fun b o e=>Heap.get?_push_of_some _ e;rw [hw];refine wpAny_bind (wpAny_pure ?_);show wpAny (model X.prog X.w) X.A (do rule "assign.swapped-stores";let items ← unpackItems (.ref s1.heap.objs.size) 2 none;assignInOrder [fun v=>bindName X.env y v,fun v=>bindName X.env x v] items.reverse;pure Flow.next) _ _ _;refine wpAny_bind (wpAny_rule (wpAny_bind (unpackItems_tuple (items:=#[u1,u2]) (I.ok.hd hc) (IsTup.new s1.heap _) fun h' hx'=>?_)));have I3:=I2.kept (h':=h') (t':=s1.toks) fun b o e=>hx' b o (aA (Heap.lt_size e)) e;show wpAny _ _ (assignInOrder [fun v=>bindName X.env y v,fun v=>bindName X.env x v] [u2,u1] >>= fun _=>pure Flow.next) _ _ _;refine wpAny_bind (assignInOrder_cons (wpAny_bindName (jU I3 hN hj (.inl hy) rw' (fun s2 I4=>?_) (.inr hy))));refine assignInOrder_cons (wpAny_bindName (jU I4 hN hi (.inl hx) rv (fun s3 I5=>assignInOrder_nil (wpAny_pure ?_)) (.inr hx)));rw [List.set_comm _ _ (Ne.symm hij)] at I5;exact⟨_,H1,I5,q1⟩
def Bo(i:Nat)(te:TE)(ti:AQ):TS:=fun D σ H=>∃ x,σ[i]? = some (some x)/\te σ H fun y H1=>ti x y H1 fun z H2=>D.nx (σ.set i (some z)) H2
theorem yC{i:Nat}{x:Str}{e:Expr}{te:TE}{op:Operator}{ti:AQ}{pos':Pos}(hN:X.N.Nodup)(hi:X.N[i]? = some x)(hx:tX X.env.scope x)(he:PE X e te)(ho:Cy X op ti)(hf:X.fn x=true\/X.env.scope.names.lookup x=some .local:=by first|exact .inl rfl|exact .inr rfl|assumption) :
  PS X (.AugAssign (.Name x pos') op e pos) (Bo i te ti):=by
 intro pins s σ H D I h;obtain⟨v,e1,h⟩:=h;obtain⟨m,hn,hl⟩:=I.loc;have vis:xn X.env.scope x:=by rcases hx with k|k;exact .inl k;exact .inr (.inl k)
 obtain⟨u,r,l⟩:=hl i x v hi e1 vis;refine wpAny_AugAssign_Name ?_;have go:wpAny (model X.prog X.w) X.A (eval e X.env) (fun w s₂=>wpAny (model X.prog X.w) X.A (inplaceOp op u w) (fun r s₃=>wpAny (model X.prog X.w) X.A (storeName X.env x r) (fun _=>SP X pins D .next) X.xe s₃) X.xe s₂) X.xe s:=by
  refine jv (he pins s σ H _ I h) fun w s1 ⟨y,H1,I1,r1,q1⟩=>?_;refine jv (ho pins s1 σ H1 v y u w _ I1 r r1 q1) fun z s2 ⟨zv,H2,I2,r2,q2⟩=>?_;exact jU I2 hN hi hx r2 (fun s3 I3=>⟨_,H2,I3,q2⟩) hf
 rcases l with⟨hk,hm⟩|⟨hk,c,hc,hcell⟩
 ·exact wpAny_loadName_local I.ok.kind hk hn hm go
 ·rcases hk with hk|hk
  ·exact wpAny_loadName_cell I.ok.kind hk hc hcell go
  ·rcases hx with k|k
   ·have:X.env.scope.names.lookup x=some .free:=hk;rw [k] at this;cases this
   ·have:X.env.scope.names.lookup x=some .free:=hk;rw [k] at this;cases this
def zW(to ti te:TE)(tget:V->V->Hp->VK->Prop)(tip:AQ)(tset:vL):TS:=fun D σ H=>to σ H fun o H1=>ti σ H1 fun i H2=>tget o i H2 fun x H3=>te σ H3 fun y H4=>tip x y H4 fun z H5=>tset o i z H5 fun H6=>D.nx σ H6
def AT(X:Cx)(t:V->V->Hp->VK->Prop):Prop :=
 ∀(pins:List (Addr×Obj)) (s:Shared) (σ:St) (H:Hp) (o i:V) (ov iv:Value) (Q:VK),Inv X pins σ H s->RelV o ov->RelV i iv->t o i H Q ->
  wpAny (model X.prog X.w) X.A (getItem ov iv) (EP X pins σ Q) X.xe s
theorem v9{o i e:Expr}{to ti te:TE}{tget:V->V->Hp->VK->Prop}{tip:AQ}{tset:vL}{op:Operator}{tpos:Pos}(ho:PE X o to)(hi:PE X i ti)(hg:AT X tget)(he:PE X e te)(hp:Cy X op tip)(hs:zC X tset)
  (ha:∀ ov iv new,augStore i ov iv new=(do holding [new,ov,iv] (setItem ov iv new);release [new,ov,iv] [];pure .next):=by intros;rfl):PS X (.AugAssign (.Subscript o i tpos) op e pos) (zW to ti te tget tip tset):=by
 intro pins s σ H D I h;refine wpAny_AugAssign_SubscriptAny (jv (ho pins s σ H _ I h) fun ov s1 ⟨x1,H1,I1,r1,q1⟩=>?_) ha;refine jv (hi pins s1 σ H1 _ I1 q1) fun iv s2 ⟨x2,H2,I2,r2,q2⟩=>?_;refine jv (hg pins s2 σ H2 x1 x2 ov iv _ I2 r1 r2 q2) fun old s3 ⟨x3,H3,I3,r3,q3⟩=>?_;refine jv (he pins s3 σ H3 _ I3 q3) fun v s4 ⟨x4,H4,I4,r4,q4⟩=>?_;refine jv (hp pins s4 σ H4 x3 x4 old v _ I4 r3 r4 q4) fun new s5 ⟨x5,H5,I5,r5,q5⟩=>?_;exact jv (hs pins s5 σ H5 x1 x2 x5 ov iv new _ I5 r1 r2 r5 q5) fun _ s6 ⟨H6,I6,q6⟩=>⟨σ,H6,I6,q6⟩
end
section
variable{X:Cx}{pos:Pos}
def yb(c:TT)(tb:TS):TS:=fun D σ H=>∃ W:Nat->St->Hp->Prop,(∃ m,W m σ H)/\∀ m σ H,W m σ H ->
 c σ H fun b H1=>if b=true then ∃ N:St->Hp->Prop,(∀ σ' H',N σ' H'->∃ m',m'<m/\W m' σ' H')/\tb { D with nx:=N,ct:=N,bk:=D.nx } σ H1 else D.nx σ H1
theorem ux{c:Expr}{body:List Stmt}{tc:TT}{tb:TS}(hp:PassesOwn (model X.prog X.w) X.A X.env X.xe)(hc:PT X c tc)(hb:PSs X body tb):PS X (.While c body [] pos) (yb tc tb):=by
 intro pins s σ H D I h;obtain⟨W,⟨m0,w0⟩,turn⟩:=h;refine wpAny_While (codeAny_whileLoop (fun n s'=>∃ σ' H',Inv X pins σ' H' s'/\W n σ' H') ?_ m0 ⟨σ,H,I,w0⟩);rintro n s1 ⟨σ1,H1,I1,w1⟩;refine wpAny_passesOwn hp (jv (hc pins s1 σ1 H1 _ I1 (turn n σ1 H1 w1)) fun b s2 ⟨H2,I2,q2⟩=>?_);cases b with
 | true =>
  obtain⟨N,hN,q2⟩:=q2;rw [if_pos rfl];refine wpAny_passesOwn hp (jv (hb pins s2 σ1 H2 _ I2 q2) fun f s3 q3=>?_);cases f with
  | next =>
   obtain⟨σ3,H3,I3,n3⟩:=q3;obtain⟨m',hm,w3⟩:=hN σ3 H3 n3;exact⟨m',hm,σ3,H3,I3,w3⟩
  | cont =>
   obtain⟨σ3,H3,I3,n3⟩:=q3;obtain⟨m',hm,w3⟩:=hN σ3 H3 n3;exact⟨m',hm,σ3,H3,I3,w3⟩
  | brk=>exact q3
  | ret v=>exact q3
 | false =>
  rw [if_neg ao];exact wpAny_execs_nil ⟨σ1,H2,I2,q2⟩
end
structure It where
 go:Nat->Hp->Prop
 yld:Nat->Hp->V->Hp->Prop
 stop:Nat->Hp->Prop
def kH(X:Cx)(pins:List (Addr×Obj))(H:Hp)(b:Addr):Prop :=
 H b=none/\b≠X.env.locals/\b ∉ X.fs/\(b∈X.ex\/X.s₀.heap.objs.size<=b)/\(∀ x c,X.env.cells.lookup x=some c->c≠b)/\∀ p∈X.pn++pins,p.1≠b
theorem Inv.fpOk{X:Cx}{pins:List (Addr×Obj)}{σ:St}{H H':Hp}{s:Shared}{b:Addr}(I:Inv X pins σ H s)(hb:s.heap.objs.size<=b)(hn:H' b=none):kH X pins H' b:=by
 refine⟨hn,cj (ak I.lt hb),I.nofs hb,.inr (az I.sz hb),fun x c e z=>?_,fun p hp z=>?_⟩
 ·obtain⟨v,q⟩:=I.cell x c e;exact absurd (ak q.lt (by rw [z];exact hb)) (aM _)
 ·exact absurd (ak (Heap.lt_size (I.pin p hp).1) (by rw [z];exact hb)) (aM _)
structure Turn (P:Program)(w:World)(K:Frag)(tg:Expr)(J:It)(fp:List Addr)(it:Addr)(tn:Nat->Heap->Prop):Prop where
 mem:it∈fp
 obj:∀ i h,tn i h->∀ b∈fp,∃ o,h.get? b=some o/\∀ v,o.data ≠ .cell v
 keep:∀ i h h',tn i h->(∀ b∈fp,∀ o,h.get? b=some o->h'.get? b=some o)->tn i h'
 item:∀(X:Cx),X.prog=P->X.w=w->X.K=K->X.calm=true->∀(i:Nat) (pins:List (Addr×Obj)) (s:Shared) (σ:St) (H:Hp) (E:Value->Shared->Prop),Inv X pins σ H s->(∀ b∈fp,kH X pins H b)->tn i s.heap->J.go i H ->
  wpAny (model P w) X.A (pyNext (.ref it)) (fun r s1=>∃ u,r=some u /\
   wpAny (model P w) X.A (letOwnedTupleGo tg (.ref it) u) (fun _ s2=>∃ x H',Inv X pins σ H' s2/\RelV x u/\J.yld i H x H'/\tn (i+1) s2.heap/\∀ b∈fp,H' b=none) E s1) E s
 done:∀(X:Cx),X.prog=P->X.w=w->X.K=K->X.calm=true->∀(i:Nat) (pins:List (Addr×Obj)) (s:Shared) (σ:St) (H:Hp) (E:Value->Shared->Prop),Inv X pins σ H s->(∀ b∈fp,kH X pins H b)->tn i s.heap->J.stop i H ->
  wpAny (model P w) X.A (pyNext (.ref it)) (fun r s1=>r=none/\Inv X pins σ H s1) E s
 self:∀(A:Around) (i:Nat) (s:Shared) (Q:Value->Shared->Prop) (E:Value->Shared->Prop),tn i s.heap->Q (.ref it) s->wpAny (model P w) A (pyIter (.ref it)) Q E s
abbrev TI:=St->Hp->(It->Hp->Prop)->Prop
def A1(X:Cx)(pins:List (Addr×Obj))(σ:St)(tg:Expr)(R:It->Hp->Prop)(itv:Value)(s2:Shared):Prop :=
 ∃(it:Addr) (fp:List Addr) (tn:Nat->Heap->Prop) (J:It) (H':Hp),itv = .ref it/\Inv X pins σ H' s2/\Turn X.prog X.w X.K tg J fp it tn/\tn 0 s2.heap/\(∀ b∈fp,kH X pins H' b)/\R J H'
def PI(X:Cx)(tg iter:Expr)(wi:TI):Prop :=
 ∀(pins:List (Addr×Obj)) (s:Shared) (σ:St) (H:Hp) (R:It->Hp->Prop),Inv X pins σ H s->wi σ H R ->
  wpAny (model X.prog X.w) X.A (eval iter X.env) (fun v s1=>wpAny (model X.prog X.w) X.A (pyIter v) (A1 X pins σ tg R) X.xe s1) X.xe s
theorem oe{M:Model}{A:Around}{E:Value->Shared->Prop}{s:Shared}{tg:Expr}{it:Addr}{u:Value}{o:Obj}{n:String}{vs:Array Value}{Q:Unit->Shared->Prop}(ho:s.heap.get? it=some o)(hc:o.cls = .type n)(hd:o.data = .fields vs)
  (hn:["enumerate", "zip", "dict_itemiterator", "dict_reverseitemiterator", "odict_iterator", "itertools.zip_longest", "itertools.pairwise"].contains n=false) (hQ:Q () s):wpAny M A (letOwnedTupleGo tg (.ref it) u) Q E s:=by
 unfold letOwnedTupleGo;cases tg <;> first
  | exact wpAny_pure hQ
  | (cases u <;> first
    | exact wpAny_pure hQ
    | (refine wpAny_bind (wpAny_load ho ?_)
       rw [hc,hd];show wpAny M A (if (["enumerate", "zip", "dict_itemiterator", "dict_reverseitemiterator", "odict_iterator", "itertools.zip_longest", "itertools.pairwise"].contains n && vs[0]? == some (rawInt _))=true then _ else _) Q E s;rw [if_neg (by intro h;rw [hn,bI] at h;cases h)];exact wpAny_pure hQ))
def CC(K:Frag)(a:Addr):It :=
 ⟨fun i H=>∃ xs x,SqL K H a xs/\xs[i]? = some x,fun i H x H'=>H'=H/\∀ xs,SqL K H a xs->xs[i]? = some x,fun i H=>∃ xs,SqL K H a xs/\xs.length<=i⟩
def CB(K:Frag)(a:Addr):It :=
 ⟨fun i H=>∃ xs x,SqT K H a xs/\xs[i]? = some x,fun i H x H'=>H'=H/\∀ xs,SqT K H a xs->xs[i]? = some x,fun i H=>∃ xs,SqT K H a xs/\xs.length<=i⟩
def zK(lo:Int)(n:Nat):It:=⟨fun i _=>i<n,fun i H x H'=>H'=H/\x = .int (lo+i),fun i _=>n<=i⟩
theorem sI{P:Program}{w:World}{K:Frag}{tg:Expr}(a it:Addr):Turn P w K tg (CC K a) [it] it (fun i h=>h.IsListIter it a i) where
 mem:=by simp
 obj:=fun i h st b hb=>by
  have e:b=it:=by simpa using hb
  subst e;obtain⟨o,e,c,d⟩:=st;exact⟨o,e,fun v z=>by rw [d] at z;cases z⟩
 keep:=fun i h h' st k=>st.at fun o e=>k it (by simp) o e
 item:=by
  intro X hP hw hK hc i pins s σ H E I hf st hg;subst hP hw hK;obtain⟨xs,x,hq,hx⟩:=hg;obtain⟨its,rv,p,hz⟩:=I.list hq;obtain⟨u,hu,ru⟩:=rv.get hx;obtain⟨f0,f1,f2,f3,f4,f5⟩:=hf it (by simp);refine wpAny_pyNext_list_item st p.isList (x:=u) (by simpa using hu) fun h' st' sb=>?_;have I1:Inv X pins σ H { s with heap:=h' }:=I.turned (t':=s.toks) (fun b o hb e=>(sb.2 b hb).trans e) f0 f1 f3 f4 f5;obtain⟨o,e,c,d⟩:=id st';exact⟨u,rfl,oe (s:={ s with heap:=h' }) e c d (by decide) ⟨x,H,I1,ru,⟨rfl,fun ys hy=>by rw [I.list_inj hy hq];exact hx⟩,st',fun b hb=>(hf b hb).1⟩⟩
 done:=by
  intro X hP hw hK hc i pins s σ H E I hf st hg;subst hP hw hK;obtain⟨xs,hq,hx⟩:=hg;obtain⟨its,rv,p,hz⟩:=I.list hq;obtain⟨f0,f1,f2,f3,f4,f5⟩:=hf it (by simp);have hl:=rv.length;exact wpAny_pyNext_list_end (I.ok.hd hc) st p.isList (by simp;(first|lia|omega)) fun h' eb=>⟨rfl,I.turned (t':=s.toks) (fun b o hb e=>eb b o hb e) f0 f1 f3 f4 f5⟩
 self:=fun _ _ _ _ _ st h=>wpAny_pyIter_listiter st h
theorem qz{P:Program}{w:World}{K:Frag}{tg:Expr}(a it:Addr):Turn P w K tg (CB K a) [it] it (fun i h=>h.IsTupleIter it a i) where
 mem:=by simp
 obj:=fun i h st b hb=>by
  have e:b=it:=by simpa using hb
  subst e;obtain⟨o,e,c,d⟩:=st;exact⟨o,e,fun v z=>by rw [d] at z;cases z⟩
 keep:=fun i h h' st k=>st.at fun o e=>k it (by simp) o e
 item:=by
  intro X hP hw hK hc i pins s σ H E I hf st hg;subst hP hw hK;obtain⟨xs,x,hq,hx⟩:=hg;obtain⟨its,rv,p,hz⟩:=I.tuple hq;obtain⟨u,hu,ru⟩:=rv.get hx;obtain⟨f0,f1,f2,f3,f4,f5⟩:=hf it (by simp);refine wpAny_pyNext_tuple_item st (show s.heap.IsTuple a its.toArray from p) (x:=u) (by simpa using hu) fun h' st' sb=>?_;have I1:Inv X pins σ H { s with heap:=h' }:=I.turned (t':=s.toks) (fun b o hb e=>(sb.2 b hb).trans e) f0 f1 f3 f4 f5;obtain⟨o,e,c,d⟩:=id st';exact⟨u,rfl,oe (s:={ s with heap:=h' }) e c d (by decide) ⟨x,H,I1,ru,⟨rfl,fun ys hy=>by rw [I.tuple_inj hy hq];exact hx⟩,st',fun b hb=>(hf b hb).1⟩⟩
 done:=by
  intro X hP hw hK hc i pins s σ H E I hf st hg;subst hP hw hK;obtain⟨xs,hq,hx⟩:=hg;obtain⟨its,rv,p,hz⟩:=I.tuple hq;obtain⟨f0,f1,f2,f3,f4,f5⟩:=hf it (by simp);have hl:=rv.length;exact wpAny_pyNext_tuple_end (I.ok.hd hc) st (show s.heap.IsTuple a its.toArray from p) (by simp;(first|lia|omega)) fun h' eb=>⟨rfl,I.turned (t':=s.toks) (fun b o hb e=>eb b o hb e) f0 f1 f3 f4 f5⟩
 self:=fun _ _ _ _ _ st h=>wpAny_pyIter_tupleiter st h
theorem qA{P:Program}{w:World}{K:Frag}{tg:Expr}(it:Addr)(lo:Int)(n:Nat):Turn P w K tg (zK lo n) [it] it (fun i h=>IsRangeIter h it (lo+(i:Nat)*1) ((n:Int)-(i:Nat)) 1) where
 mem:=by simp
 obj:=fun i h st b hb=>by
  have e:b=it:=by simpa using hb
  subst e;exact⟨_,st,fun v z=>by
   have z':Data.fields _=Data.cell v:=z;cases z'⟩
 keep:=fun i h h' st k=>k it (by simp) _ st
 item:=by
  intro X hP hw hK hc i pins s σ H E I hf st hg;subst hP hw hK;obtain⟨f0,f1,f2,f3,f4,f5⟩:=hf it (by simp);have W:=Walks.range (prog:=X.prog) (w:=X.w) (I.ok.hd hc) it lo 1 n;refine W.item i s _ _ hg st fun v h' tk hv st' kk=>?_;obtain⟨t,rfl⟩:=hv;have I1:Inv X pins σ H { s with heap:=h',toks:=tk }:=I.turned (fun b o hb e=>kk b o (by simpa using hb) e) f0 f1 f3 f4 f5;refine⟨_,rfl,oe (s:={ s with heap:=h',toks:=tk }) (n := "range_iterator") st' rfl rfl (by decide) ⟨.int (lo+i),H,I1,⟨t,?_⟩,⟨rfl,rfl⟩,st',fun b hb=>(hf b hb).1⟩⟩;rw [Int.mul_one]
 done:=by
  intro X hP hw hK hc i pins s σ H E I hf st hg;subst hP hw hK;obtain⟨f0,f1,f2,f3,f4,f5⟩:=hf it (by simp);exact wpAny_pyNext_range_end (I.ok.hd hc) st (by have:n<=i:=hg;(first|lia|omega)) fun h' eb=>⟨rfl,I.turned (t':=s.toks) (fun b o hb e=>eb b o hb e) f0 f1 f3 f4 f5⟩
 self:=fun _ _ _ _ _ st h=>wpAny_pyIter_rangeiter st h
end L2
namespace L2
open PySem PySem.Spec PyProof.Rows
section
variable{X:Cx}{tg:Expr}
theorem pQ{pins:List (Addr×Obj)}{σ:St}{H:Hp}{s:Shared}{R:It->Hp->Prop}{E:Value->Shared->Prop}{lo hi:Int}{t u v:Tok}{tk:Nat}(I:Inv X pins σ H s)(h1 : -(2^62)<=lo)(h2:lo<2^62)(h3 : -(2^62)<=hi)(h4:hi<2^62)
  (q:R (zK lo (hi-lo).toNat) H):wpAny (model X.prog X.w) X.A (pyIter (.ref s.heap.objs.size)) (A1 X pins σ tg R) E { s with heap:=s.heap.push { cls:=.type "range",data:=.fields #[.int lo t,.int hi u,.int 1 v] },toks:=tk }:=by
 refine wpAny_pyIter_range (IsRange.new ..) (small_one h1 h2 h3 h4) ?_;have I1:Inv X pins σ H { s with heap:=s.heap.push { cls:=.type "range",data:=.fields #[.int lo t,.int hi u,.int 1 v] },toks:=tk }:=I.kept fun b o e=>Heap.get?_push_of_some _ e;refine⟨(s.heap.push { cls:=.type "range",data:=.fields #[.int lo t,.int hi u,.int 1 v] }).objs.size,[(s.heap.push { cls:=.type "range",data:=.fields #[.int lo t,.int hi u,.int 1 v] }).objs.size],_,_,H,rfl,
  I1.kept (t':=tk) fun b o e=>Heap.get?_push_of_some _ e,qA _ lo (hi-lo).toNat,?_,fun b hb=>?_,q⟩
 ·have e1:lo+((0:Nat):Int)*1=lo:=by simp
  have e2:(((hi-lo).toNat:Nat):Int)-((0:Nat):Int)=Builtin.Range.rangeSize lo hi 1:=by rw [rangeSize_one];split <;> (first|lia|omega)
  show IsRangeIter _ _ (lo+((0:Nat):Int)*1) ((((hi-lo).toNat:Nat):Int)-((0:Nat):Int)) 1;rw [e1,e2];exact Heap.get?_push_size _ rfl
 ·have e:b=(s.heap.push { cls:=.type "range",data:=.fields #[.int lo t,.int hi u,.int 1 v] }).objs.size:=by simpa using hb
  subst e;exact I1.fpOk (aj _) (I1.hok.fresh (aj _))
def Aw(ta:TA):TI:=fun σ H R=>ta σ H fun vs H1=>∃ j:Int,vs=[.int j] /\ -(2^62)<=j/\j<2^62/\R (zK 0 j.toNat) H1
def Av(ta:TA):TI:=fun σ H R=>ta σ H fun vs H1=>∃ i j:Int,vs=[.int i,.int j]/\(-(2^62)<=i/\i<2^62 /\ -(2^62)<=j/\j<2^62)/\R (zK i (j-i).toNat) H1
theorem nW{a:Expr}{ta:TA}{p pos:Pos}(hg:Gl X "range")(hm:X.mg "range" = none)(ha:PA X [a] ta)(hs:starEach [a] X.env=[(false,eval a X.env)]:=by rfl):PI X tg (.Call (.Name "range" p) [a] [] pos) (Aw ta):=by
 intro pins s σ H R I h;refine Call_ (kA I hg hm boot_range (PyProof.Rows.callWith_type1 (jv (ha pos pins s σ H _ I h) fun us s1 ⟨vs,H1,I1,r1,q1⟩=>?_) hs rfl));obtain⟨j,e,q1,q2,q⟩:=q1;subst e;cases r1 with
 | cons r rr =>
  cases rr;obtain⟨t,rfl⟩:=r;exact call_range_1 (pQ I1 (by first|lia|omega) (by first|lia|omega) q1 q2 (by simpa using q))
theorem sV{a b:Expr}{ta:TA}{p pos:Pos}(hg:Gl X "range")(hm:X.mg "range" = none)(ha:PA X [a,b] ta)(hs:starEach [a,b] X.env=[(false,eval a X.env),(false,eval b X.env)]:=by rfl)(hs2:starEach [b] X.env=[(false,eval b X.env)]:=by rfl) :
  PI X tg (.Call (.Name "range" p) [a,b] [] pos) (Av ta):=by
 intro pins s σ H R I h;refine Call_ (kA I hg hm boot_range (PyProof.Rows.callWith_type1 (jv (ha pos pins s σ H _ I h) fun us s1 ⟨vs,H1,I1,r1,q1⟩=>?_) (by rw [hs,hs2]) (by rw [hs2];rfl)));obtain⟨i,j,e,⟨q1,q2,q3,q4⟩,q⟩:=q1;subst e;cases r1 with
 | cons r rr =>
  cases rr with
  | cons r' rr =>
   cases rr;obtain⟨t,rfl⟩:=r;obtain⟨t',rfl⟩:=r';exact call_range_2 (pQ I1 q1 q2 q3 q4 q)
def Bj(wi:TI)(g:TG)(tb:TS):TS:=fun D σ H=>wi σ H fun J H1=>∃ W:Nat->Nat->St->Hp->Prop,(∃ m,W 0 m σ H1)/\∀ i m σ H,W i m σ H ->
 (J.stop i H/\D.nx σ H)\/(J.go i H/\∃ N:St->Hp->Prop,(∀ σ' H',N σ' H'->∃ m',m'<m/\W (i+1) m' σ' H')/\∀ x H',J.yld i H x H'->g x σ H' fun σ2 H2=>tb { D with nx:=N,ct:=N,bk:=D.nx } σ2 H2)
def nc(fp:List Addr)(h:Heap):List (Addr×Obj):=fp.filterMap fun b=>(h.get? b).map fun o=>(b,o)
theorem kg{fp:List Addr}{h:Heap}{b:Addr}{o:Obj}(hb:b∈fp)(e:h.get? b=some o):(b,o)∈nc fp h:=dA.mpr ⟨b,hb,by rw [e];rfl⟩
theorem td{fp:List Addr}{h:Heap}{p:Addr×Obj}(hp:p∈nc fp h):p.1∈fp/\h.get? p.1=some p.2:=by
 obtain⟨b,hb,e⟩:=dA.mp hp;cases q:h.get? b with
 | none=>rw [q] at e;cases e
 | some o =>
  rw [q] at e;have e':(b,o)=p:=Option.some.inj e;subst e';exact⟨hb,q⟩
theorem Inv.pinned{pins:List (Addr×Obj)}{σ:St}{H:Hp}{s:Shared}{fp:List Addr}(I:Inv X pins σ H s)(hf:∀ b∈fp,kH X pins H b)(ho:∀ b∈fp,∃ o,s.heap.get? b=some o/\∀ v,o.data ≠ .cell v):Inv X (pins++nc fp s.heap) σ H s :=
 I.pins_of fun p hp=>(bw.mp hp).elim (fun z=>I.pin p (aC _ z)) fun z=>by
  obtain⟨hb,e⟩:=td z;obtain⟨f0,f1,f2,_⟩:=hf p.1 hb;obtain⟨o,e',d⟩:=ho p.1 hb;rw [e] at e';cases e';exact⟨e,f0,f1,f2,d⟩
theorem Inv.unpinned{pins pl:List (Addr×Obj)}{σ:St}{H:Hp}{s:Shared}(I:Inv X (pins++pl) σ H s):Inv X pins σ H s:=I.pins_of fun p hp=>I.pin p (aC _ (dm _ hp))
theorem yB{iter:Expr}{body:List Stmt}{wi:TI}{g:TG}{tb:TS}{pos:Pos}(hp:PassesOwn (model X.prog X.w) X.A X.env X.xe)(hc:X.calm=true)(hi:PI X tg iter wi)(hg:PG X tg g)(hb:PSs X body tb)
  (hs:∀ x,foldedSetIterable iter X.env x=pure x:=by intro _;rfl):PS X (.For tg iter body [] pos) (Bj wi g tb):=by
 intro pins s σ H D I h;refine wpAny_For (jv (hi pins s σ H _ I h) fun v s1 h1=>jv h1 fun itv s2 h2=>?_) hs;obtain⟨it,fp,tn,J,H2,e,I2,T,st2,f2,W,⟨m0,w0⟩,turn⟩:=h2;subst e
 -- what stays true of the iterator's objects through the loop
 have stat:∀{H':Hp},(∀ b∈fp,H' b=none)->∀ b∈fp,kH X pins H' b:=fun hn b hb=>⟨hn b hb,(f2 b hb).2⟩;refine codeAny_forLoop_any (fun n s'=>∃ i σ' H',Inv X pins σ' H' s'/\tn i s'.heap/\(∀ b∈fp,H' b=none)/\W i n σ' H') ?_ m0 ⟨0,σ,H2,I2,st2,fun b hb=>(f2 b hb).1,w0⟩;rintro n s3 ⟨i,σ3,H3,I3,st3,fr3,w3⟩;rcases turn i n σ3 H3 w3 with⟨stop,qn⟩|⟨go,N,hN,step⟩
 ·refine wpAny_passesOwn hp (jv (T.done X rfl rfl rfl hc i pins s3 σ3 H3 X.xe I3 (stat fr3) st3 stop) fun r s4 ⟨hr,I4⟩=>?_);subst hr;exact wpAny_execs_nil ⟨σ3,H3,I4,qn⟩
 ·refine wpAny_passesOwn hp (jv (T.item X rfl rfl rfl hc i pins s3 σ3 H3 X.xe I3 (stat fr3) st3 go) fun r s4 ⟨u,hr,h4⟩=>?_);subst hr;refine wpAny_passesOwn hp (jv h4 fun _ s5 ⟨x,H5,I5,r5,y5,st5,fr5⟩=>?_);have I5':=I5.pinned (stat fr5) (T.obj _ _ st5);refine wpAny_passesOwn hp (jv (hg _ s5 σ3 H5 x u _ I5' r5 (step x H5 y5)) fun _ s6 ⟨σ6,H6,I6,q6⟩=>?_);refine wpAny_passesOwn hp (jv (hb _ s6 σ6 H6 _ I6 q6) fun f s7 q7=>?_);have again:∀{σ7:St} {H7:Hp},Inv X (pins++nc fp s5.heap) σ7 H7 s7->N σ7 H7->∃ m,m<n/\∃ i σ' H',Inv X pins σ' H' s7/\tn i s7.heap/\(∀ b∈fp,H' b=none)/\W i m σ' H':=fun {σ7 H7} I7 n7=>by
   obtain⟨m',hm,w7⟩:=hN σ7 H7 n7;refine⟨m',hm,i+1,σ7,H7,I7.unpinned,T.keep _ _ _ st5 fun b hb o e=>(I7.pin (b,o) (aC _ (aC _ (kg hb e)))).1,fun b hb=>?_,w7⟩;obtain⟨o,e,d⟩:=T.obj _ _ st5 b hb;exact (I7.pin (b,o) (aC _ (aC _ (kg hb e)))).2.1
  cases f with
  | next=>obtain⟨σ7,H7,I7,n7⟩:=q7;exact again I7 n7
  | cont=>obtain⟨σ7,H7,I7,n7⟩:=q7;exact again I7 n7
  | brk=>obtain⟨σ7,H7,I7,q7⟩:=q7;exact⟨σ7,H7,I7.unpinned,q7⟩
  | ret v=>obtain⟨x7,σ7,H7,I7,r7,q7⟩:=q7;exact⟨x7,σ7,H7,I7.unpinned,r7,q7⟩
end
end L2
namespace L2
open PySem PySem.Spec PyProof.Rows
abbrev R2:=V->V->Hp->VK->Prop
def OpR(X:Cx)(f:Value->Value->Sem Value)(r:R2):Prop :=
 ∀(pins:List (Addr×Obj)) (s:Shared) (σ:St) (H:Hp) (x y:V) (v u:Value) (Q:VK),Inv X pins σ H s->RelV x v->RelV y u->r x y H Q ->
  wpAny (model X.prog X.w) X.A (f v u) (EP X pins σ Q) X.xe s
def B6(X:Cx)(f:Value->Sem Value)(r:V->Hp->VK->Prop):Prop :=
 ∀(pins:List (Addr×Obj)) (s:Shared) (σ:St) (H:Hp) (x:V) (v:Value) (Q:VK),Inv X pins σ H s->RelV x v->r x H Q ->
  wpAny (model X.prog X.w) X.A (f v) (EP X pins σ Q) X.xe s
def CallR(X:Cx)(f:Value)(r:List V->Hp->VK->Prop):Prop :=
 ∀(pins:List (Addr×Obj)) (s:Shared) (σ:St) (H:Hp) (xs:List V) (us:List Value) (Q:VK),Inv X pins σ H s->Vals xs us->r xs H Q ->
  wpAny (model X.prog X.w) X.A (call f us) (EP X pins σ Q) X.xe s
def B7(X:Cx)(r:V->Hp->(Bool->Hp->Prop)->Prop):Prop :=
 ∀(pins:List (Addr×Obj)) (s:Shared) (σ:St) (H:Hp) (x:V) (v:Value) (Q:Bool->Hp->Prop),Inv X pins σ H s->RelV x v->r x H Q ->
  wpAny (model X.prog X.w) X.A (truthy v) (TP X pins σ Q) X.xe s
def zT(r:R2)(ta tb:TE):TE:=fun σ H Q=>ta σ H fun x H1=>tb σ H1 fun y H2=>r x y H2 Q
def CG(r:V->Hp->VK->Prop)(ta:TE):TE:=fun σ H Q=>ta σ H fun x H1=>r x H1 Q
def rI(C:Int->Int->Prop)(g:Int->Int->V):R2:=fun x y H Q=>∃ i j,x = .int i/\y = .int j/\C i j/\Q (g i j) H
def ut(g:Int->Int->V):R2:=fun x y H Q=>∃ i j,x = .int i/\y = .int j/\Q (g i j) H
def rU(g:Int->V):V->Hp->VK->Prop:=fun x H Q=>∃ i,x = .int i/\Q (g i) H
section
variable{X:Cx}{a b c:Expr}{ta tb tc:TE}{pos:Pos}
theorem zu(ha:PE X a ta)(hb:PE X b tb){pins:List (Addr×Obj)}{s:Shared}{σ:St}{H:Hp}{R:V->V->Hp->Prop}(I:Inv X pins σ H s)
  (h:ta σ H fun x H1=>tb σ H1 fun y H2=>R x y H2) {Q:Value->Shared->Prop} {f:Value->Value->Sem Value}
  (hf:∀ v u s2 x y H2,Inv X pins σ H2 s2->RelV x v->RelV y u->R x y H2->wpAny (model X.prog X.w) X.A (f v u) Q X.xe s2) :
  wpAny (model X.prog X.w) X.A (eval a X.env) (fun v s₁=>wpAny (model X.prog X.w) X.A (eval b X.env) (fun u s₂=>wpAny (model X.prog X.w) X.A (f v u) Q X.xe s₂) X.xe s₁) X.xe s:=by
 refine jv (ha pins s σ H _ I h) fun v s1 ⟨x,H1,I1,r1,q1⟩=>?_;refine jv (hb pins s1 σ H1 _ I1 q1) fun u s2 ⟨y,H2,I2,r2,q2⟩=>?_;exact hf v u s2 x y H2 I2 r1 r2 q2
theorem jB{op:Operator}{r:R2}(ho:OpR X (binaryOp op) r)(ha:PE X a ta)(hb:PE X b tb):PE X (.BinOp a op b pos) (zT r ta tb):=by
 intro pins s σ H Q I h;exact wpAny_BinOp (zu ha hb I h fun v u s2 x y H2 I2 rx ry q=>ho pins s2 σ H2 x y v u Q I2 rx ry q)
theorem xF{op:UnaryOp}{r:V->Hp->VK->Prop}(ho:B6 X (unaryOp op) r)(ha:PE X a ta):PE X (.UnaryOp op a pos) (CG r ta):=by
 intro pins s σ H Q I h;exact UnaryOp_ (jv (ha pins s σ H _ I h) fun v s1 ⟨x,H1,I1,r1,q1⟩=>ho pins s1 σ H1 x v Q I1 r1 q1)
theorem xK{f:Value->Value->Sem Value}{C:Int->Int->Prop}{g:Int->Int->Int}
  (rule:∀(i j:Int) (t u:Tok) (s:Shared) (Q:Value->Shared->Prop) (E:Value->Shared->Prop),C i j->Q (.int (g i j) s.toks) { s with toks:=s.toks+1 }->wpAny (model X.prog X.w) X.A (f (.int i t) (.int j u)) Q E s) :
  OpR X f (rI C fun i j=>.int (g i j)):=by
 intro pins s σ H x y v u Q I rx ry h;obtain⟨i,j,rfl,rfl,hc,q⟩:=h;obtain⟨t,rfl⟩:=rx;obtain⟨t',rfl⟩:=ry;exact rule i j t t' s _ _ hc ⟨.int (g i j),H,I.tok _,⟨_,rfl⟩,q⟩
theorem wt{f:Value->Value->Sem Value}{g:Int->Int->Int}
  (rule:∀(i j:Int) (t u:Tok) (s:Shared) (Q:Value->Shared->Prop) (E:Value->Shared->Prop),Q (.int (g i j) s.toks) { s with toks:=s.toks+1 }->wpAny (model X.prog X.w) X.A (f (.int i t) (.int j u)) Q E s) :
  OpR X f (ut fun i j=>.int (g i j)):=by
 intro pins s σ H x y v u Q I rx ry h;obtain⟨i,j,rfl,rfl,q⟩:=h;obtain⟨t,rfl⟩:=rx;obtain⟨t',rfl⟩:=ry;exact rule i j t t' s _ _ ⟨.int (g i j),H,I.tok _,⟨_,rfl⟩,q⟩
theorem wu{f:Value->Value->Sem Value}{g:Int->Int->Bool}
  (rule:∀(i j:Int) (t u:Tok) (s:Shared) (Q:Value->Shared->Prop) (E:Value->Shared->Prop),Q (.bool (g i j)) s->wpAny (model X.prog X.w) X.A (f (.int i t) (.int j u)) Q E s) :
  OpR X f (ut fun i j=>.bl (g i j)):=by
 intro pins s σ H x y v u Q I rx ry h;obtain⟨i,j,rfl,rfl,q⟩:=h;obtain⟨t,rfl⟩:=rx;obtain⟨t',rfl⟩:=ry;exact rule i j t t' s _ _ ⟨.bl (g i j),H,I,rfl,q⟩
def Ce(i j:Int):Prop:=0<j/\j<1073741824
def xp(i j:Int):Prop:=0<=j/\j<=1000000/\i.natAbs<2^64
def CMul(i j:Int):Prop:=(-(2^64)<i/\i<2^64)\/(-(2^64)<j/\j<2^64)
theorem CMul.ok{i j:Int}(h:CMul i j):IntMulOk i j:=by
 rcases h with⟨h1,h2⟩|⟨h1,h2⟩
 ·exact .of_left (intBits_le_64 h1 h2)
 ·exact .of_right (intBits_le_64 h1 h2)
theorem ka:OpR X (binaryOp .Add) (ut fun i j=>.int (i+j)):=wt fun _ _ _ _ _ _ _ q=>add_int q
theorem yH:OpR X (binaryOp .Sub) (ut fun i j=>.int (i-j)):=wt fun _ _ _ _ _ _ _ q=>sub_int q
theorem qP:OpR X (binaryOp .Mult) (rI CMul fun i j=>.int (i*j)):=xK fun _ _ _ _ _ _ _ hc q=>mul_int q hc.ok
theorem rX:OpR X (binaryOp .FloorDiv) (rI Ce fun i j=>.int (i / j)):=xK fun i j _ _ _ _ _ hc q=>by
 have h1:(0:Int)<j:=hc.1;have h2:j<1073741824:=hc.2;exact floordiv_int (by first|lia|omega) (by rw [cY i (by first|lia|omega)];exact q) (.inl (PyProof.noPylong_small (by first|lia|omega)))
theorem lj:OpR X (binaryOp .Mod) (rI (fun _ j=>0<j) fun i j=>.int (i%j)):=xK fun i j _ _ _ _ _ hc q=>by
 have h1:(0:Int)<j:=hc;exact mod_int' (by first|lia|omega) (by rw [cX i (by first|lia|omega)];exact q)
theorem wp:OpR X (binaryOp .Mod) (rI (fun _ j=>j≠0) fun i j=>.int (i.fmod j)):=xK fun _ _ _ _ _ _ _ hc q=>mod_int' hc q
theorem uQ:OpR X (binaryOp .Pow) (rI xp fun i j=>.int (i^j.toNat)):=xK fun _ _ _ _ _ _ _ hc q=>pow_int_small hc.1 hc.2.1 hc.2.2 q
theorem yI:OpR X (binaryOp .LShift) (rI xp fun i j=>.int (i*2^j.toNat)):=xK fun _ _ _ _ _ _ _ hc q=>lshift_int_small hc.1 hc.2.1 hc.2.2 q
theorem wU:OpR X (inplaceOp .Add) (ut fun i j=>.int (i+j)):=wt fun _ _ _ _ _ _ _ q=>iadd_int q
theorem wT:OpR X (inplaceOp .Sub) (ut fun i j=>.int (i-j)):=wt fun _ _ _ _ _ _ _ q=>isub_int q
theorem CF{f:Value->Sem Value}{g:Int->Int}
  (rule:∀(i:Int) (t:Tok) (s:Shared) (Q:Value->Shared->Prop) (E:Value->Shared->Prop),Q (.int (g i) s.toks) { s with toks:=s.toks+1 }->wpAny (model X.prog X.w) X.A (f (.int i t)) Q E s) :
  B6 X f (rU fun i=>.int (g i)):=by
 intro pins s σ H x v Q I rx h;obtain⟨i,rfl,q⟩:=h;obtain⟨t,rfl⟩:=rx;exact rule i t s _ _ ⟨.int (g i),H,I.tok _,⟨_,rfl⟩,q⟩
theorem ub:B6 X (unaryOp .USub) (rU fun i=>.int (-i)):=CF fun _ _ _ _ _ q=>neg_int q
end
def yh:V->V->Bool
 | .non,.non=>true | .non,.int _=>true | .int _,.non=>true | .non,.bl _=>true | .bl _,.non=>true | .non,.str _=>true | .str _,.non=>true
 | .int _,.int _=>true | .bl _,.bl _=>true | .str _,.str _=>true | .byt _,.byt _=>true
 | .int _,.str _=>true | .str _,.int _=>true | .bl _,.str _=>true | .str _,.bl _=>true
 | _,_=>false
def CP:R2:=fun x y H Q=>yh x y=true/\Q (.bl (decide (x=y))) H
def CO:R2:=fun x y H Q=>yh x y=true/\Q (.bl (!decide (x=y))) H
theorem sx{i j:Int}:decide (V.int i=V.int j)=(i == j):=by
 rw [aS];simp
theorem vq{i j:Bool}:decide (V.bl i=V.bl j)=(i == j):=by
 rw [aS];simp
theorem sv{i j:Str}:decide (V.str i=V.str j)=(i == j):=by
 rw [aS];simp
theorem sy{i j:Array UInt8}:decide (V.byt i=V.byt j)=(i.toList == j.toList):=by
 rw [aS];cases i;cases j;simp
section
variable{X:Cx}{a b c:Expr}{ta tb tc:TE}{pos:Pos}
theorem jp{pins:List (Addr×Obj)}{σ:St}{H:Hp}{s:Shared}{Q:VK}{k k':Bool}(I:Inv X pins σ H s)(q:Q (.bl k) H)(e:k=k'):EP X pins σ Q (.bool k') s:=by
 subst e;exact⟨.bl k,H,I,rfl,q⟩
theorem pV:OpR X (compareOp .Eq) CP:=by
 intro pins s σ H x y v u Q I rx ry h;obtain⟨hs,q⟩:=h;cases x with
 | non =>
  cases rx;cases y with
  | non=>cases ry;exact PySem.EqNone.eq_none_none (jp I q (by simp))
  | bl j=>cases ry;exact PySem.EqNone.eq_none_bool (jp I q (by simp))
  | int j=>obtain⟨t',rfl⟩:=ry;exact PySem.EqNone.eq_none_int (jp I q (by simp))
  | str j=>obtain⟨t',rfl⟩:=ry;exact PySem.EqNone.eq_none_str (jp I q (by simp))
  | _=>exact absurd (show false=true from hs) ao
 | bl i =>
  cases rx;cases y with
  | non=>cases ry;exact PySem.EqNone.eq_bool_none (jp I q (by simp))
  | bl j=>cases ry;exact eq_bool (jp I q vq)
  | str j=>obtain⟨t',rfl⟩:=ry;exact PySem.EqMixed.eq_bool_str (jp I q (by simp))
  | _=>exact absurd (show false=true from hs) ao
 | int i =>
  obtain⟨t,rfl⟩:=rx;cases y with
  | non=>cases ry;exact PySem.EqNone.eq_int_none (jp I q (by simp))
  | int j=>obtain⟨t',rfl⟩:=ry;exact eq_int (jp I q sx)
  | str j=>obtain⟨t',rfl⟩:=ry;exact PySem.EqMixed.eq_int_str (jp I q (by simp))
  | _=>exact absurd (show false=true from hs) ao
 | str i =>
  obtain⟨t,rfl⟩:=rx;cases y with
  | non=>cases ry;exact PySem.EqNone.eq_str_none (jp I q (by simp))
  | bl j=>cases ry;exact PySem.EqMixed.eq_str_bool (jp I q (by simp))
  | int j=>obtain⟨t',rfl⟩:=ry;exact PySem.EqMixed.eq_str_int (jp I q (by simp))
  | str j=>obtain⟨t',rfl⟩:=ry;exact eq_str (jp I q sv)
  | _=>exact absurd (show false=true from hs) ao
 | byt i =>
  obtain⟨t,rfl⟩:=rx;cases y with
  | byt j=>obtain⟨t',rfl⟩:=ry;exact PySem.W.eq_bytes (jp I q sy)
  | _=>exact absurd (show false=true from hs) ao
 | _=>cases y <;> exact absurd (show false=true from hs) ao
theorem uR:OpR X (compareOp .NotEq) CO:=by
 intro pins s σ H x y v u Q I rx ry h;obtain⟨hs,q⟩:=h;cases x with
 | non =>
  cases rx;cases y with
  | non=>cases ry;exact PySem.EqNone.ne_none_none (jp I q (by simp))
  | bl j=>cases ry;exact PySem.EqNone.ne_none_bool (jp I q (by simp))
  | int j=>obtain⟨t',rfl⟩:=ry;exact PySem.EqNone.ne_none_int (jp I q (by simp))
  | str j=>obtain⟨t',rfl⟩:=ry;exact PySem.EqNone.ne_none_str (jp I q (by simp))
  | _=>exact absurd (show false=true from hs) ao
 | bl i =>
  cases rx;cases y with
  | non=>cases ry;exact PySem.EqNone.ne_bool_none (jp I q (by simp))
  | bl j=>cases ry;exact ne_bool (jp I q (congrArg not vq))
  | str j=>obtain⟨t',rfl⟩:=ry;exact PySem.EqMixed.ne_bool_str (jp I q (by simp))
  | _=>exact absurd (show false=true from hs) ao
 | int i =>
  obtain⟨t,rfl⟩:=rx;cases y with
  | non=>cases ry;exact PySem.EqNone.ne_int_none (jp I q (by simp))
  | int j=>obtain⟨t',rfl⟩:=ry;exact ne_int (jp I q (congrArg not sx))
  | str j=>obtain⟨t',rfl⟩:=ry;exact PySem.EqMixed.ne_int_str (jp I q (by simp))
  | _=>exact absurd (show false=true from hs) ao
 | str i =>
  obtain⟨t,rfl⟩:=rx;cases y with
  | non=>cases ry;exact PySem.EqNone.ne_str_none (jp I q (by simp))
  | bl j=>cases ry;exact PySem.EqMixed.ne_str_bool (jp I q (by simp))
  | int j=>obtain⟨t',rfl⟩:=ry;exact PySem.EqMixed.ne_str_int (jp I q (by simp))
  | str j=>obtain⟨t',rfl⟩:=ry;exact ne_str (jp I q (congrArg not sv))
  | _=>exact absurd (show false=true from hs) ao
 | byt i =>
  obtain⟨t,rfl⟩:=rx;cases y with
  | byt j=>obtain⟨t',rfl⟩:=ry;exact PySem.W.ne_bytes (jp I q (congrArg not sy))
  | _=>exact absurd (show false=true from hs) ao
 | _=>cases y <;> exact absurd (show false=true from hs) ao
theorem xH:OpR X (compareOp .Lt) (ut fun i j=>.bl (decide (i<j))):=wu fun _ _ _ _ _ _ _ q=>lt_int q
theorem Ao:OpR X (compareOp .LtE) (ut fun i j=>.bl (decide (i<=j))):=wu fun _ _ _ _ _ _ _ q=>le_int q
theorem xI:OpR X (compareOp .Gt) (ut fun i j=>.bl (decide (j<i))):=wu fun _ _ _ _ _ _ _ q=>gt_int q
theorem xJ:OpR X (compareOp .GtE) (ut fun i j=>.bl (decide (j<=i))):=wu fun _ _ _ _ _ _ _ q=>ge_int q
theorem sZ:OpR X (compareOp .In) (fun x y H Q=>∃ i j,x = .str i/\y = .str j/\Q (.bl (!(Builtin.Str.occurrences j i 0 j.length 1).isEmpty)) H):=by
 intro pins s σ H x y v u Q I rx ry h;obtain⟨i,j,rfl,rfl,q⟩:=h;obtain⟨t,rfl⟩:=rx;obtain⟨t',rfl⟩:=ry;exact in_str (jp I q rfl)
theorem yK:OpR X (compareOp .Is) (fun x y H Q=>y = .non/\Q (.bl (decide (x = .non))) H):=by
 intro pins s σ H x y v u Q I rx ry h;obtain⟨rfl,q⟩:=h;cases ry;refine is_none_gen (jp I q ?_);cases x <;> first
  | (cases rx;rfl)
  | (obtain⟨t,rfl⟩:=rx;rfl)
theorem wl:OpR X (compareOp .IsNot) (fun x y H Q=>y = .non/\Q (.bl (!decide (x = .non))) H):=by
 intro pins s σ H x y v u Q I rx ry h;obtain⟨rfl,q⟩:=h;cases ry;refine isnot_none_gen (jp I q ?_);cases x <;> first
  | (cases rx;rfl)
  | (obtain⟨t,rfl⟩:=rx;rfl)
theorem oN:OpR X (compareOp .NotIn) (fun x y H Q=>∃ i j,x = .str i/\y = .str j/\Q (.bl (!(!(Builtin.Str.occurrences j i 0 j.length 1).isEmpty))) H):=by
 intro pins s σ H x y v u Q I rx ry h;obtain⟨i,j,rfl,rfl,q⟩:=h;obtain⟨t,rfl⟩:=rx;obtain⟨t',rfl⟩:=ry;exact notIn_str (jp I q rfl)
theorem ke(b:Expr){op:CmpOp}(h:op ≠ .In:=by decide)(h2:op ≠ .NotIn:=by decide):behindInMarks op b=false:=by
 have e1:(op == CmpOp.In)=false:=by cases op <;> first|rfl|exact absurd rfl h
 have e2:(op == CmpOp.NotIn)=false:=by cases op <;> first|rfl|exact absurd rfl h2
 cases b <;> simp [behindInMarks,e1,e2]
theorem mS{op:CmpOp}{r:R2}(ho:OpR X (compareOp op) r)(ha:PE X a ta)(hb:PE X b tb)(hm:behindInMarks op b=false):PE X (.Compare a [op] [b] pos) (zT r ta tb):=by
 intro pins s σ H Q I h;exact wpAny_Compare1 (zu ha hb I h fun v u s2 x y H2 I2 rx ry q=>ho pins s2 σ H2 x y v u Q I2 rx ry q) hm
def ug(t:TE):TT:=fun σ H Q=>t σ H fun x H'=>∃ k,x = .bl k/\Q k H'
theorem j9{op:CmpOp}{r:R2}(ho:OpR X (compareOp op) r)(ha:PE X a ta)(hb:PE X b tb)(hm:behindInMarks op b=false):PT X (.Compare a [op] [b] pos) (ug (zT r ta tb)):=by
 intro pins s σ H Q I h;refine wpAny_isTrue_Compare1 (jv (ha pins s σ H _ I h) fun v s1 ⟨x,H1,I1,r1,q1⟩=>jv (hb pins s1 σ H1 _ I1 q1) fun u s2 ⟨y,H2,I2,r2,q2⟩ =>
  jv (ho pins s2 σ H2 x y v u _ I2 r1 r2 q2) fun c s3 ⟨z,H3,I3,r3,k,e,q3⟩=>?_) hm
 subst e;cases r3;exact wpAny_truthy_bool ⟨H3,I3,q3⟩
def uh(r r':R2)(ta tb tc:TE):TE:=fun σ H Q=>ta σ H fun x H1=>tb σ H1 fun y H2=>r x y H2 fun z H3=>∃ k,z = .bl k /\
 (if k=true then tc σ H3 fun w' H4=>r' y w' H4 Q else Q (.bl false) H3)
theorem uE{op op':CmpOp}{r r':R2}(ho:OpR X (compareOp op) r)(ho':OpR X (compareOp op') r')(ha:PE X a ta)(hb:PE X b tb)(hc:PE X c tc)
  (hm:lastMarks [op,op'] [b,c]=false:=by with_unfolding_all rfl):PE X (.Compare a [op,op'] [b,c] pos) (uh r r' ta tb tc):=by
 intro pins s σ H Q I h;refine Compare_chain (jv (ha pins s σ H _ I h) fun v s1 ⟨x,H1,I1,r1,q1⟩=>chain_link (jv (hb pins s1 σ H1 _ I1 q1) fun u s2 ⟨y,H2,I2,r2,q2⟩ =>
  jv (ho pins s2 σ H2 x y v u _ I2 r1 r2 q2) fun d s3 ⟨z,H3,I3,r3,k,e,q3⟩=>?_)) hm
 subst e;cases r3;refine wpAny_truthy_bool ?_;cases k with
 | false=>exact ite_ff ⟨.bl false,H3,I3,rfl,q3⟩
 | true=>exact ite_tt (chain_last (jv (hc pins s3 σ H3 _ I3 q3) fun w' s4 ⟨z',H4,I4,r4,q4⟩=>ho' pins s4 σ H4 y z' u w' Q I4 r2 r4 q4))
theorem uw{op op':CmpOp}{r r':R2}(ho:OpR X (compareOp op) r)(ho':OpR X (compareOp op') r')(ha:PE X a ta)(hb:PE X b tb)(hc:PE X c tc)
  (hm:lastMarks [op,op'] [b,c]=false:=by with_unfolding_all rfl):PT X (.Compare a [op,op'] [b,c] pos) (ug (uh r r' ta tb tc)):=by
 intro pins s σ H Q I h;refine isTrue_chain (jv (ha pins s σ H _ I h) fun v s1 ⟨x,H1,I1,r1,q1⟩=>test_link (jv (hb pins s1 σ H1 _ I1 q1) fun u s2 ⟨y,H2,I2,r2,q2⟩ =>
  jv (ho pins s2 σ H2 x y v u _ I2 r1 r2 q2) fun d s3 ⟨z,H3,I3,r3,k,e,q3⟩=>?_)) hm
 subst e;cases r3;refine wpAny_truthy_bool ?_;cases k with
 | false =>
  obtain⟨k',e',q'⟩:=q3;cases e';exact ite_ff ⟨H3,I3,q'⟩
 | true =>
  refine ite_tt (test_last (jv (hc pins s3 σ H3 _ I3 q3) fun w' s4 ⟨z',H4,I4,r4,q4⟩=>jv (ho' pins s4 σ H4 y z' u w' _ I4 r2 r4 q4) fun d' s5 ⟨z2,H5,I5,r5,k2,e2,q5⟩=>?_));subst e2;cases r5;exact wpAny_truthy_bool ⟨H5,I5,q5⟩
def zA(K:Frag)(x:V)(H:Hp)(k:Bool):Prop :=
 match x with
 | .non=>k=false
 | .bl b=>k=b
 | .int i=>k=(i != 0)
 | .str y=>y.length<=sizeLine/\k=((y.length:Int) != 0)
 | .byt y=>y.size<=sizeLine/\k=((y.size:Int) != 0)
 | .ref p=>(∃ xs,SqL K H p xs/\k = !xs.isEmpty)\/(∃ xs,SqT K H p xs/\k = !xs.isEmpty)\/∃ kvs,H p=some (.dK kvs)/\k = !kvs.isEmpty
 | _=>False
theorem qZ{κ:Type}{kvs:List (κ×V)}{vs:List (κ×Value)}(r:KV kvs vs):(!vs.isEmpty) = !kvs.isEmpty:=by
 cases r <;> rfl
theorem nj{xs:List V}{its:List Value}(r:Vals xs its):(!its.toArray.isEmpty) = !xs.isEmpty:=by
 cases r <;> simp
theorem j2:(sizeLine:Nat)<2^63:=by rw [sizeLine_eq];decide
theorem x9:B7 X (fun x H Q=>∃ k,zA X.K x H k/\Q k H):=by
 intro pins s σ H x v Q I rx h;obtain⟨k,e,q⟩:=h;have hl:=j2;have hs:sizeLine=16777216:=sizeLine_eq;cases x with
 | non =>
  cases rx;have e':k=false:=e;subst e';exact truthy_none ⟨H,I,q⟩
 | bl b =>
  cases rx;have e':k=b:=e;subst e';exact wpAny_truthy_bool ⟨H,I,q⟩
 | int i =>
  obtain⟨t,rfl⟩:=rx;have e':k=(i != 0):=e;subst e';exact PySem.P.truthy_int ⟨H,I,q⟩
 | str y =>
  obtain⟨t,rfl⟩:=rx;obtain⟨hy,e'⟩:y.length<=sizeLine/\k=((y.length:Int) != 0):=e;subst e';exact PySem.P.truthy_str (by first|lia|omega) ⟨H,I.tok _,q⟩
 | byt y =>
  obtain⟨t,rfl⟩:=rx;obtain⟨hy,e'⟩:y.size<=sizeLine/\k=((y.size:Int) != 0):=e;subst e';exact PySem.W.truthy_bytes (by first|lia|omega) ⟨H,I.tok _,q⟩
 | ref p =>
  cases rx;have e':(∃ xs,SqL X.K H p xs/\k = !xs.isEmpty)\/(∃ xs,SqT X.K H p xs/\k = !xs.isEmpty)\/∃ kvs,H p=some (.dK kvs)/\k = !kvs.isEmpty:=e;rcases e' with⟨xs,hx,e'⟩|⟨xs,hx,e'⟩|⟨kvs,hx,e'⟩
  ·subst e';obtain⟨its,r,pl,hz⟩:=I.list hx;have hlen:=r.length;exact wpAny_truthy_list pl.isList (by simp only [af];(first|lia|omega)) ⟨H,I.tok _,by rw [nj r];exact q⟩
  ·subst e';obtain⟨its,r,pl,hz⟩:=I.tuple hx;have hlen:=r.length;exact truthy_tuple pl (by simp only [af];(first|lia|omega)) ⟨H,I.tok _,by rw [nj r];exact q⟩
  ·subst e';obtain⟨hz,hS,vs,r,m⟩:kvs.length<=sizeLine/\(p == sysModules)=false/\∃ vs,KV kvs vs/\s.heap.DictOf (lL X.prog X.w) p vs:=I.hok p _ hx;have hlen:kvs.length=vs.length:=Paired.length r;exact wpAny_truthy_dict hS m (by first|lia|omega) ⟨H,I.tok _,by rw [qZ r];exact q⟩
 | _=>exact (show False from e).elim
theorem pR(ha:PE X a ta)(he:∀ whole,isTrue a X.env whole=(do let v ← whole;standAt a.pos;holding [v] (truthy v))) :
  PT X a (fun σ H Q=>ta σ H fun x H'=>∃ k,zA X.K x H' k/\Q k H'):=by
 intro pins s σ H Q I h;exact isTrue_plain (jv (ha pins s σ H _ I h) fun v s1 ⟨x,H1,I1,r1,q1⟩=>x9 pins s1 σ H1 x v Q I1 r1 q1) (he _)
theorem qQ:OpR X (binaryOp .Add) (fun x y H Q=>∃ i j,x = .str i/\y = .str j/\i.length+j.length<=sizeLine/\Q (.str (i++j)) H):=by
 intro pins s σ H x y v u Q I rx ry h;obtain⟨i,j,rfl,rfl,hz,q⟩:=h;obtain⟨t,rfl⟩:=rx;obtain⟨t',rfl⟩:=ry;exact add_str (fun t' tk=>⟨.str (i++j),H,I.tok _,⟨_,rfl⟩,q⟩) hz
theorem qf:OpR X (inplaceOp .Add) (fun x y H Q=>∃ i j,x = .str i/\y = .str j/\i.length+j.length<=sizeLine/\Q (.str (i++j)) H):=by
 intro pins s σ H x y v u Q I rx ry h;obtain⟨i,j,rfl,rfl,hz,q⟩:=h;obtain⟨t,rfl⟩:=rx;obtain⟨t',rfl⟩:=ry;exact iadd_str (fun t' tk=>⟨.str (i++j),H,I.tok _,⟨_,rfl⟩,q⟩) hz
theorem mB{x:V}{us:List Value}(r:Vals [x] us):∃ u,us=[u]/\RelV x u:=by
 cases r with
 | cons r1 r2=>cases r2;exact⟨_,rfl,r1⟩
theorem vC:CallR X (.builtin "abs") (fun xs H Q=>∃ i,xs=[.int i]/\Q (.int (if i<0 then -i else i)) H):=by
 intro pins s σ H xs us Q I r h;obtain⟨i,rfl,q⟩:=h;obtain⟨u,rfl,t,rfl⟩:=mB r;exact call_abs_int fun u tk=>⟨.int (if i<0 then -i else i),H,I.tok _,⟨_,rfl⟩,q⟩
theorem tU:CallR X (.type "int") (fun xs H Q=>(∃ i,xs=[.int i]/\Q (.int i) H)\/∃ k,xs=[.bl k]/\Q (.int (if k then 1 else 0)) H):=by
 intro pins s σ H xs us Q I r h;rcases h with⟨i,rfl,q⟩|⟨k,rfl,q⟩
 ·obtain⟨u,rfl,t,rfl⟩:=mB r;exact call_int_int ⟨.int i,H,I,⟨_,rfl⟩,q⟩
 ·obtain⟨u,rfl,r1⟩:=mB r;cases r1;exact call_int_bool ⟨.int (if k then 1 else 0),H,I.tok _,⟨_,rfl⟩,q⟩
theorem pb:CallR X (.type "str") (fun xs H Q=>∃ i,xs=[.int i]/\i.natAbs.log2<1920/\Q (.str (toString i)) H):=by
 intro pins s σ H xs us Q I r h;obtain⟨i,rfl,hz,q⟩:=h;obtain⟨u,rfl,t,rfl⟩:=mB r;exact PySem.P.str_of_int hz ⟨.str _,H,I.tok _,⟨_,rfl⟩,q⟩
end
end L2
namespace L2
open PySem PySem.Spec PyProof.Rows
structure ObjM (h:Heap)(x dx C:Addr)(mA:Str->Option Value):Prop where
 obj:h.get? x=some (PySem.W.instObj C dx)
 ns:h.Ns1 dx mA
 ne:dx≠x
theorem n5{h:Heap}{dx:Addr}{mA:Str->Option Value}(n:h.Ns1 dx mA):∃ od,h.get? dx=some od/\∀ name,PySem.W.lookIn name od=some (mA name):=by
 obtain⟨o,es,ep,ho,hd,hk,_,hm⟩:=n;refine⟨o,ho,fun name=>?_⟩;have e:=hm name;unfold nsFind findBy at e;rw [← Array.find?_toList] at e;unfold PySem.W.lookIn;rw [hd];dsimp only;split
 ·rename_i y q;rw [q] at e;exact congrArg some e
 ·rename_i q;rw [q] at e;have a:es.toList.any (·.refKey)=false:=by
   rw [List.any_eq_false];intro y hy;obtain⟨z,t,hkey⟩:=hk y (Array.mem_toList_iff.mp hy);simp [DictEntry.refKey,hkey]
  have a':¬ es.toList.any (·.refKey)=true:=by rw [a];exact ao
  rw [if_neg a'];exact congrArg some e
theorem ObjM.look{h:Heap}{x dx C:Addr}{mA:Str->Option Value}(I:ObjM h x dx C mA):∃ od,PySem.W.InstAt h x (PySem.W.instObj C dx) C (some od)/\∀ name,PySem.W.lookIn name od=some (mA name) :=
 let ⟨od,ho,hl⟩:=n5 I.ns
 ⟨od,⟨I.obj,rfl,rfl,ho⟩,hl⟩
theorem RelO.some_of{v:V}{o:Option Value}(r:RelO (some v) o):∃ u,o=some u/\RelV v u:=by
 cases o with
 | none=>exact (show False from r).elim
 | some u=>exact⟨u,rfl,r⟩
theorem tN{v:V}{u:Value}(r:RelV v u):PySem.W.handedIn u=true:=by
 cases v with
 | non=>cases (show u=Value.none from r);rfl
 | bl b=>cases (show u=Value.bool b from r);rfl
 | int i=>obtain⟨t,e⟩:=(show ∃ t,u=Value.int i t from r);cases e;rfl
 | str x=>obtain⟨t,e⟩:=(show ∃ t,u=Value.str x t from r);cases e;rfl
 | byt b=>obtain⟨t,e⟩:=(show ∃ t,u=Value.bytes b t from r);cases e;rfl
 | flt b=>obtain⟨t,e⟩:=(show ∃ t,u=Value.float b t from r);cases e;rfl
 | ref a=>cases (show u=Value.ref a from r);rfl
 | ty n=>cases (show u=Value.type n from r);rfl
section
variable{P:Program}{w:World}{H H':Hp}{h h':Heap}{a C dx:Addr}{fs fs':List (Str×V)}
theorem wV(hok:HOk P w H h)(e:H a=some (.ins C dx fs)):∃ mA,ObjM h a dx C mA/\(∀ f,RelO (fs.lookup f) (mA f))/\PySem.Within mA (fs.map (·.1))/\fs.length<=1000/\H dx=some (.own a):=by
 obtain⟨d,z,ne,ob,mA,n,r,q⟩:=(show ObjOk P w H h a (.ins C dx fs) from hok a _ e);exact⟨mA,⟨ob,n,ne⟩,r,q,z,d⟩
end
structure Cls (K:Frag)(C:Addr):Prop where
 pg:PySem.W.plainGet K C Str.empty=true
 hd:PySem.W.hasDictIn K C=true
 po:PySem.W.plainOver K C=true
 sa:PySem.W.findIn K (.ref C) "__setattr__" = some (some (.builtin "object.__setattr__"))
theorem Cls.get{K:Frag}{C:Addr}(c:Cls K C)(f:Str):PySem.W.plainGet K C f=true:=c.pg
def kG(K:Frag)(C:Addr)(f:Str):Prop:=PySem.W.findIn K (.ref C) f=some none
section
variable{X:Cx}{pins:List (Addr×Obj)}{σ:St}{H:Hp}{s:Shared}{a C dx:Addr}{fs:List (Str×V)}{f:Str}{v:V}{A:Around}{E:Value->Shared->Prop}
theorem xj{prog:Program}{w:World}{env:Env}{e:Expr}{f:Str}{pos:Pos}{s:Shared}{Q:Value->Shared->Prop}(hb:attributeBase e f env (eval e env)=eval e env)
  (h:wpAny (model prog w) A (eval e env) (fun o s₁=>wpAny (model prog w) A (getAttr o f true) Q E s₁) E s):wpAny (model prog w) A (eval (.Attribute e f pos) env) Q E s :=
 Attribute_any_ h (by rw [arm_eval_Attribute,hb])
end
section
variable{X:Cx}{pins:List (Addr×Obj)}{σ:St}{H:Hp}{s:Shared}{A:Around}{E:Value->Shared->Prop}{Q:Value->Shared->Prop}{c:Value}{b:Bool}
inductive TyOf (K:Frag) (H:Hp):V->Value->Prop where
 | non:TyOf K H .non (.type "NoneType")
 | bl (x:Bool):TyOf K H (.bl x) (.type "bool")
 | int (i:Int):TyOf K H (.int i) (.type "int")
 | str (x:Str):TyOf K H (.str x) (.type "str")
 | flt (x:UInt64):TyOf K H (.flt x) (.type "float")
 | lst {a:Addr} {xs:List V} (e:H a=some (.lst xs)):TyOf K H (.ref a) (.type "list")
 | frz {a:Addr} {o:Obj} {xs:List V} (e:H a=some (.frz o (.lst xs))):TyOf K H (.ref a) (.type "list")
 | tup {a:Addr} {xs:List V} (e:H a=some (.tup xs)):TyOf K H (.ref a) (.type "tuple")
 | dK {a:Addr} {kvs:List (mW×V)} (e:H a=some (.dK kvs)):TyOf K H (.ref a) (.type "dict")
 | dT {a:Addr} {kvs:List (List mW×V)} (e:H a=some (.dT kvs)):TyOf K H (.ref a) (.type "dict")
 | ins {a C dx:Addr} {fs:List (Str×V)} (e:H a=some (.ins C dx fs)) (cl:Cls K C) (ha:PySem.W.findIn K (.ref C) "__class__" = some (some (.builtin "object.__class__")))
   (hn:PySem.W.specialIn K (.builtin "object.__class__") "__get__" = some (some (.builtin "getset_descriptor.__get__"))) (htk:PySem.W.takesIn K (.builtin "object.__class__")=some true)
   (hm:PySem.W.mroIn K C (.type "object")=some true):TyOf K H (.ref a) (.ref C)
theorem tI{x:V}{u t:Value}(I:Inv X pins σ H s)(rx:RelV x u)(ty:TyOf X.K H x t)(e:PySem.W.kitOne X.K t c=some b)(h:∀ tk,Q (.bool b) { s with toks:=tk }) :
  wpAny (model X.prog X.w) A (call (.builtin "isinstance") [u,c]) Q E s:=by
 cases ty with
 | non=>cases (show u=Value.none from rx);exact PySem.W.kia_one PySem.W.kitx_none I.kIn True.intro e (fun z=>nomatch z) h
 | bl y=>cases (show u=Value.bool y from rx);exact PySem.W.kia_one PySem.W.kitx_bool I.kIn True.intro e (fun z=>nomatch z) h
 | int i=>obtain⟨t,q⟩:=(show ∃ t,u=Value.int i t from rx);cases q;exact PySem.W.kia_one PySem.W.kitx_int I.kIn True.intro e (fun z=>nomatch z) h
 | str y=>obtain⟨t,q⟩:=(show ∃ t,u=Value.str y t from rx);cases q;exact PySem.W.kia_one PySem.W.kitx_str I.kIn True.intro e (fun z=>nomatch z) h
 | flt y=>obtain⟨t,q⟩:=(show ∃ t,u=Value.float y t from rx);cases q;exact PySem.W.kia_one PySem.W.kitx_float I.kIn True.intro e (fun z=>nomatch z) h
 | @lst a xs ea =>
  cases (show u=Value.ref a from rx);obtain⟨_,_,n,_,h1⟩:=(show ObjOk X.prog X.w H s.heap a (.lst xs) from I.hok a _ ea);exact PySem.W.kia_one PySem.W.kitx_list I.kIn ⟨_,h1,rfl⟩ e (fun z=>nomatch z) h
 | @frz a ob xs ea =>
  cases (show u=Value.ref a from rx);obtain⟨_,_,_,n,_,h1⟩:=(show ObjOk X.prog X.w H s.heap a (.frz ob (.lst xs)) from I.hok a _ ea);exact PySem.W.kia_one PySem.W.kitx_list I.kIn ⟨_,h1,rfl⟩ e (fun z=>nomatch z) h
 | @tup a xs ea =>
  cases (show u=Value.ref a from rx);obtain⟨_,_,_,p⟩:=(show ObjOk X.prog X.w H s.heap a (.tup xs) from I.hok a _ ea);obtain⟨o,h1,h2,_⟩:=p;exact PySem.W.kia_one PySem.W.kitx_tuple I.kIn ⟨o,h1,h2⟩ e (fun z=>nomatch z) h
 | @dK a kvs ea =>
  cases (show u=Value.ref a from rx);obtain⟨_,_,vs,_,p⟩:=(show ObjOk X.prog X.w H s.heap a (.dK kvs) from I.hok a _ ea);obtain⟨o,es,ep,h1,h2,_⟩:=p;exact PySem.W.kia_one PySem.W.kitx_dict I.kIn ⟨o,h1,h2.1⟩ e (fun z=>nomatch z) h
 | @dT a kvs ea =>
  cases (show u=Value.ref a from rx);obtain⟨_,_,xs,_,o,es,ep,h1,h2,_⟩:=(show ObjOk X.prog X.w H s.heap a (.dT kvs) from I.hok a _ ea);exact PySem.W.kia_one PySem.W.kitx_dict I.kIn ⟨o,h1,h2.1⟩ e (fun z=>nomatch z) h
 | @ins a C dx fs ea cl ha hn htk hm =>
  cases (show u=Value.ref a from rx);obtain⟨mA,O,_⟩:=wV I.hok ea;obtain⟨od,J,_⟩:=O.look;exact PySem.W.kia_one (PySem.W.kitx_own (cl.get _) cl.hd ha hn htk hm) I.kIn J e (fun z=>nomatch z) h
end
end L2
namespace L2
open PySem PySem.Spec PyProof.Rows
structure Room (k:Nat)(A:Around):Prop where
 hd:A.handled=none
 dp:A.depth+3*k+105<recursionLimit
 un:A.units+16*k+200<cLine
theorem Room.mono{j k:Nat}{A:Around}(r:Room k A)(h:j<=k):Room j A:=⟨r.hd,by have:=r.dp;(first|lia|omega),by have:=r.un;(first|lia|omega)⟩
theorem Room.deeper{k:Nat}{A:Around}(r:Room (k+1) A)(env:Env):Room k (A.deeper env) :=
 ⟨r.hd,by have:=r.dp;show A.depth+1+3*k+105<_;(first|lia|omega),by have:=r.un;show A.units+3+16*k+200<_;(first|lia|omega)⟩
theorem qV{A:Around}{C:Addr}{us:List Value}{kw:List (Str×Value)}:(A.under (.builtin "type.__call__" ⟨.ref C::us,kw⟩)).depth=A.depth+1:=by
 first|rfl|simp [Around.under,Code.weight,Code.isCreation,Code.isGuard,Code.isCaller,Code.frames,Code.isFrame,guardIds]
theorem qU{A:Around}{C:Addr}{us:List Value}{kw:List (Str×Value)}:(A.under (.builtin "type.__call__" ⟨.ref C::us,kw⟩)).units=A.units+1:=by
 first|rfl|simp [Around.under,Code.cUnits,Code.frames,Code.isFrame]
theorem Room.make{k:Nat}{A:Around}(r:Room (k+1) A)(C:Addr)(us:List Value)(kw:List (Str×Value)):Room k (A.under (.builtin "type.__call__" ⟨.ref C::us,kw⟩)) :=
 ⟨r.hd,by have:=r.dp;rw [qV];(first|lia|omega),by have:=r.un;rw [qU];(first|lia|omega)⟩
theorem Room.depth{k:Nat}{A:Around}(r:Room k A):A.depth<recursionLimit:=by have:=r.dp;(first|lia|omega)
theorem Room.units{k:Nat}{A:Around}(r:Room k A):A.units+64<cLine:=by have:=r.un;(first|lia|omega)
def vV:TA:=fun _ H Q=>Q [] H
def nQ(ta:TE)(tr:TA):TA:=fun σ H Q=>ta σ H fun x H1=>tr σ H1 fun xs H2=>Q (x::xs) H2
section
variable{X:Cx}{e:Expr}{es:List Expr}{te:TE}{t:TA}{pos:Pos}
theorem pa_nil:PA X [] vV:=fun _ _ _ _ H Q I h=>Calls.spliced_nil ⟨[],H,I,.nil,h⟩
theorem jg(ha:PE X e te)(hr:PA X es t)(hs:starEach (e::es) X.env=(false,eval e X.env)::starEach es X.env:=by rfl):PA X (e::es) (nQ te t):=by
 intro pos pins s σ H Q I h;rw [hs];show wpAny _ _ (spliced ((false,eval e X.env)::backTo pos (starEach es X.env))) _ _ s;refine Calls.spliced_cons (jv (ha pins s σ H _ I h) fun u s1 ⟨x,H1,I1,r1,q1⟩=>?_);exact jv (hr pos pins s1 σ H1 _ I1 q1) fun us s2 ⟨xs,H2,I2,r2,q2⟩=>⟨x::xs,H2,I2,.cons r1 r2,q2⟩
def Bc(t:TA):TE:=fun σ H Q=>t σ H fun xs H1=>xs.length<=sizeLine/\∀ p,H1 p=none->Q (.ref p) (jr H1 p (.tup xs))
def Bh(t:TA):TE:=fun σ H Q=>t σ H fun xs H1=>xs.length<=sizeLine/\∀ p,H1 p=none->Q (.ref p) (jr H1 p (.lst xs))
theorem qK{x1}(h:PA X es t):PE X (.Tuple es x1 pos) (Bc t):=by
 intro pins s σ H Q I hq;refine wpAny_Tuple_spliced (jv (h pos pins s σ H _ I hq) fun us s1 ⟨xs,H1,I1,r,z,q⟩=>⟨by rw [← r.length];exact z,?_⟩);have hf:H1 s1.heap.objs.size=none:=I1.hok.fresh (aj _);refine⟨.ref s1.heap.objs.size,jr H1 s1.heap.objs.size (.tup xs),I1.laid (t':=s1.toks) (fun b u e=>Heap.get?_push_of_some _ e) (aj _) ?_,rfl,q _ hf⟩;exact⟨z,us,r,⟨_,Heap.get?_push_size _ rfl,rfl,_,rfl⟩⟩
theorem qM(h:PA X es t):PE X (.List es pos) (Bh t):=by
 intro pins s σ H Q I hq;refine wpAny_List_spliced (jv (h pos pins s σ H _ I hq) fun us s1 ⟨xs,H1,I1,r,z,q⟩=>⟨by rw [← r.length];exact z,?_⟩);have hf:H1 s1.heap.objs.size=none:=I1.hok.fresh (aj _);refine⟨.ref s1.heap.objs.size,jr H1 s1.heap.objs.size (.lst xs),I1.laid (t':=s1.toks) (fun b u e=>Heap.get?_push_of_some _ e) (aj _) ?_,rfl,q _ hf⟩;exact⟨z,us,0,r,Heap.get?_push_size _ rfl⟩
end
abbrev Sp:=List V->Hp->VK->XK->Prop
abbrev rF:=List Env->Hp->Shared->XK->Value->Shared->Prop
structure Env0 (P:Program)(w:World)(K:Frag)(mg:Str->Option Value)(base:Heap)(A:Around)(outer:List Env)(s:Shared)(H:Hp):Prop where
 frames:A.frames=some outer
 mod:Mod K mg base
 bs:∀ b o,base.get? b=some o->s.heap.get? b=some o/\H b=none
 bsz:base.objs.size<=s.heap.objs.size
 funs:s.heap.FunFrames base outer
 frf:∀ b∈nq outer,H b=none
 hok:HOk P w H s.heap
 bare:AllBare s.gens
 sr:base.NoSeer/\P.given.tree=none
def CE(outer:List Env)(P:Program)(w:World)(H:Hp)(s:Shared)(Q:VK)(u:Value)(s':Shared):Prop :=
 ∃ v H',s'.os=s.os/\AllBare s'.gens/\Un (nq outer) [] H H' s.heap s'.heap/\HOk P w H' s'.heap/\RelV v u/\Q v H'
def CR(CX:rF)(outer:List Env)(P:Program)(w:World)(H:Hp)(s:Shared)(Q:VK)(E:XK)(r:Result)(s':Shared):Prop :=
 match r with
 | .ok (.ret u)=>CE outer P w H s Q u s'
 | .ok _=>False
 | .error e=>CX outer H s E e s'
structure FnOk (P:Program)(w:World)(K:Frag)(mg:Str->Option Value)(base:Heap)(CX:rF)(k:Nat)(f:Addr)(fd:FuncData)(ps:List Str)(sp:Sp):Prop where
 len:∀ vs H Q E,sp vs H Q E->vs.length=ps.length
 run:∀(A:Around) (outer:List Env) (s:Shared) (H:Hp) (args:Args) (us:List Value) (vs:List V) (Q:VK) (E:XK),Room k A->Env0 P w K mg base A outer s H->BindsTo s fd args (ps.zip us)->Vals vs us->sp vs H Q E ->
  codeAny (model P w) A (.call (.ref f) args) (CR CX outer P w H s Q E) s
theorem FnOk.imp{P:Program}{w:World}{K:Frag}{mg:Str->Option Value}{base:Heap}{CX:rF}{k:Nat}{f:Addr}{fd:FuncData}{ps:List Str}{sp sp':Sp}(F:FnOk P w K mg base CX k f fd ps sp)
  (h:∀ vs H Q E,sp' vs H Q E->sp vs H Q E):FnOk P w K mg base CX k f fd ps sp' :=
 ⟨fun vs H Q E q=>F.len vs H Q E (h _ _ _ _ q),fun A outer s H args us vs Q E hr he hb hv hs=>F.run A outer s H args us vs Q E hr he hb hv (h _ _ _ _ hs)⟩
theorem Env0.make{P:Program}{w:World}{K:Frag}{mg:Str->Option Value}{base:Heap}{A:Around}{outer:List Env}{s:Shared}{H:Hp}(e:Env0 P w K mg base A outer s H)(C:Addr)(us:List Value)(kw:List (Str×Value)) :
  Env0 P w K mg base (A.under (.builtin "type.__call__" ⟨.ref C::us,kw⟩)) outer s H:=⟨by first|exact e.frames|(simpa [Around.under,Code.envs,Code.isFrame,pushEnvs] using e.frames),e.mod,e.bs,e.bsz,e.funs,e.frf,e.hok,e.bare,e.sr⟩
section
variable{X:Cx}{pins:List (Addr×Obj)}{σ:St}{H:Hp}{s s':Shared}
theorem Inv.env0(I:Inv X pins σ H s):Env0 X.prog X.w X.K X.mg X.base X.A X.stack s H :=
 ⟨I.ok.frames,I.ok.mod,I.bs,az I.ok.bsz I.sz,I.stack,I.stkFree,I.hok,I.bare,I.ok.sr⟩
theorem Inv.after{Q:VK}{u:Value}(I:Inv X pins σ H s)(h:CE X.stack X.prog X.w H s Q u s'):EP X pins σ Q u s':=by
 obtain⟨v,H',os,bare,un,hok,r,q⟩:=h;obtain⟨hh,g,d,t,os'⟩:=s';obtain rfl:os'=s.os:=os;exact⟨v,H',I.call (h':=hh) (g':=g) (d':=d) (t':=t) (ch:=[]) un hok bare (fun b z=>absurd z (by simp)),r,q⟩
end
def mC(sp:Sp)(dvs:List V)(E:XK)(t:TA):TE:=fun σ H Q=>t σ H fun vs H1=>sp (vs++dvs) H1 Q E
def Binds(K:Frag)(fd:FuncData)(ps:List Str)(ds:List Value):Prop :=
 ∀(s:Shared) (us:List Value),K.In s.heap->(us++ds).length=ps.length->BindsTo s fd ⟨us,[]⟩ (ps.zip (us++ds))
theorem Binds.all{K:Frag}{fd:FuncData}{ps:List Str}(h:∀ us:List Value,us.length=ps.length->bindArgs fd ⟨us,[]⟩=pure (ps.zip us)):Binds K fd ps []:=fun s us _ hl=>by
 rw [aD] at hl ⊢;exact .of_eq (h us hl)
def kF(CX:rF)(X:Cx)(E:XK):Prop:=∀(pins:List (Addr×Obj)) (σ:St) (H:Hp) (s:Shared) (e:Value) (s':Shared),Inv X pins σ H s->CX X.stack H s E e s'->X.xe e s'
section
variable{X:Cx}{CX:rF}{k:Nat}{f C:Addr}{fd:FuncData}{ps:List Str}{sp:Sp}{dvs:List V}{ds:List Value}{E:XK}{x m:Str}{p pos apos:Pos}{e o:Expr}{es:List Expr}{ta:TE}{t:TA}
theorem yj{pins:List (Addr×Obj)}{σ:St}{H:Hp}{s:Shared}{Q:VK}{us:List Value}{vs:List V}(F:FnOk X.prog X.w X.K X.mg X.base CX k f fd ps sp)(hr:Room k X.A)(hb:Binds X.K fd ps ds)(hd:Vals dvs ds)(hx:kF CX X E)
  (I:Inv X pins σ H s) (r:Vals vs us) (h:sp (vs++dvs) H Q E):wpAny (model X.prog X.w) X.A (call (.ref f) us) (EP X pins σ Q) X.xe s:=by
 have r2:Vals (vs++dvs) (us++ds):=r.append hd;have hl:(us++ds).length=ps.length:=by rw [← r2.length];exact F.len _ _ _ _ h
 refine wpAny_call (codeAny_mono (F.run X.A X.stack s H ⟨us,[]⟩ (us++ds) (vs++dvs) Q E hr I.env0 (hb s us I.kIn hl) r2 h) fun r s' hq=>?_);cases r with
 | error e=>exact hx pins σ H s e s' I hq
 | ok fl =>
  cases fl with
  | ret u=>exact I.after hq
  | next=>exact False.elim hq
  | brk=>exact False.elim hq
  | cont=>exact False.elim hq
theorem rS(F:FnOk X.prog X.w X.K X.mg X.base CX k f fd ps sp)(hr:Room k X.A)(hg:Gl X x)(hm:X.mg x=some (.ref f))(hk:PySem.W.keepIn X.K (.ref f)=true)(hb:Binds X.K fd ps ds)(hd:Vals dvs ds)(hx:kF CX X E)
  (ha:PA X (e::es) t) (hdb:(x == ("__debug__" : Str))=false:=by decide) (he:starEach (e::es) X.env=(false,eval e X.env)::starEach es X.env:=by rfl) (hpl:(backTo pos (starEach es X.env)).any (·.1)=false:=by rfl) :
  PE X (.Call (.Name x p) (e::es) [] pos) (mC sp dvs E t):=by
 intro pins s σ H Q I h;refine wpAny_Call_Name_kw (kN I hg hm ?_ hdb);refine PySem.W.callWith_K (h₀:=X.base) I.ok.mod.kin hk (jv (ha pos pins s σ H _ I h) fun us s1 ⟨vs,H1,I1,r,q⟩=>⟨I1.kIn,?_⟩) he hpl;exact yj F hr hb hd hx I1 r q
end
structure FnScope (N P:List Str)(sc:Scope):Prop where
 kind:sc.kind = .function
 co:sc.isCoroutine=false
 gen:sc.isGenerator=false
 nd:N.Nodup
 pre:N.take P.length=P
 par:∀ x∈P,sc.names.lookup x=some .local\/sc.names.lookup x=some .cell
 nofree:∀ y∈sc.names,y.2 ≠ .free
theorem oq{kindOf:Str->Option NameKind}{x:Str}:∀{binds:List (Str×Value)} {m:Str->Option Value},(∀ v,(x,v) ∉ binds)->bindL kindOf binds m x=m x
 | [],_,_=>rfl
 | (n,v)::r,m,h=>by
  unfold bindL;rw [oq fun w hw=>h w (aq _ hw)];split
  ·have:x≠n:=by rintro rfl;exact h v ar
   simp [this]
  ·rfl
theorem ou{kindOf:Str->Option NameKind}{x:Str}:∀{binds:List (Str×Value)} {m:Str->Option Value},(∀ v,(x,v) ∉ binds)->bindC kindOf binds m x=m x
 | [],_,_=>rfl
 | (n,v)::r,m,h=>by
  unfold bindC;rw [ou fun w hw=>h w (aq _ hw)];split
  ·rfl
  ·have:x≠n:=by rintro rfl;exact h v ar
   simp [this]
theorem ot{kindOf:Str->Option NameKind}{x:Str}{v:Value}:∀{P:List Str} {vs:List Value} {i:Nat} {m:Str->Option Value},P.Nodup->P[i]? = some x->vs[i]? = some v->kindOf x=some .local ->
  bindL kindOf (P.zip vs) m x=some v
 | [],_,_,_,_,h,_,_=>by simp at h
 | _::_,[],_,_,_,_,h,_=>by simp at h
 | p::P,w::vs,0,m,nd,h1,h2,hk=>by
  simp at h1 h2;subst h1;subst h2;show bindL kindOf ((p,w)::P.zip vs) m p=_;unfold bindL;rw [oq fun v hv=>(bO.mp nd).1 (cM hv).1,if_pos hk];simp
 | p::P,w::vs,i+1,m,nd,h1,h2,hk=>by
  show bindL kindOf ((p,w)::P.zip vs) m x=_;unfold bindL;exact ot (i:=i) (bO.mp nd).2 (by simpa using h1) (by simpa using h2) hk
theorem oy{kindOf:Str->Option NameKind}{x:Str}{v:Value}:∀{P:List Str} {vs:List Value} {i:Nat} {m:Str->Option Value},P.Nodup->P[i]? = some x->vs[i]? = some v->kindOf x≠some .local ->
  bindC kindOf (P.zip vs) m x=some v
 | [],_,_,_,_,h,_,_=>by simp at h
 | _::_,[],_,_,_,_,h,_=>by simp at h
 | p::P,w::vs,0,m,nd,h1,h2,hk=>by
  simp at h1 h2;subst h1;subst h2;show bindC kindOf ((p,w)::P.zip vs) m p=_;unfold bindC;rw [ou fun v hv=>(bO.mp nd).1 (cM hv).1,if_neg hk];simp
 | p::P,w::vs,i+1,m,nd,h1,h2,hk=>by
  show bindC kindOf ((p,w)::P.zip vs) m x=_;unfold bindC;exact oy (i:=i) (bO.mp nd).2 (by simpa using h1) (by simpa using h2) hk
def start(N:List Str)(vs:List V):St:=vs.map some++List.replicate (N.length-vs.length) none
def lv(CX:rF)(P:Program)(w:World)(K:Frag)(mg:Str->Option Value)(base:Heap)(N:List Str)(qual:Str)(scope:Scope)(f:Addr)(cd:Value)(A:Around)(outer:List Env)(s:Shared)(H:Hp)(E:XK):Cx where
 prog:=P
 w:=w
 K:=K
 mg:=mg
 base:=base
 A:=A.deeper (envOfC qual scope s.heap.objs.size f cd)
 N:=N
 s₀:=s
 H₀:=H
 env:=envOfC qual scope s.heap.objs.size f cd
 outer:=outer
 stack:=envOfC qual scope s.heap.objs.size f cd::outer
 ex:=[]
 calm:=true
 fn:=fun _=>true
 pn:=[]
 xe:=fun e s'=>wpAny (model P w) (A.deeper (envOfC qual scope s.heap.objs.size f cd)) (leaving (envOfC qual scope s.heap.objs.size f cd) e) (fun _ s''=>CX outer H s E e s'') (fun e' s''=>CX outer H s E e' s'') s'
theorem qp{sc:Scope}{n:Nat}{x:Str}(h:sc.names.lookup x=some .cell):∃ c,(cellsFrom n sc.names []).lookup x=some c:=by
 have q:=PySem.W.cellsFrom_some sc.names n [] (.inl h);exact cQ.mp q
theorem tK{CX:rF}{P:Program}{w:World}{K:Frag}{mg:Str->Option Value}{base:Heap}{N ps:List Str}{qual:Str}{scope:Scope}{f:Addr}{cd:Value}{A:Around}{outer:List Env}{s s1:Shared}{H:Hp}{E:XK}{us:List Value}{vs:List V}
  (S:FnScope N ps scope) (hd:A.handled=none) (e0:Env0 P w K mg base A outer s H) (hl:vs.length=ps.length) (r:Vals vs us)
  (x:InCallC s s.heap.objs.size (bindL (envOfC qual scope s.heap.objs.size f cd).kindOf (ps.zip us) fun _=>none) (cellsFrom (s.heap.objs.size+1) scope.names []) (bindC (envOfC qual scope s.heap.objs.size f cd).kindOf (ps.zip us) fun _=>none) s1) :
  Inv (lv CX P w K mg base N qual scope f cd A outer s H E) [] (start N vs) H s1:=by
 have hpl:ps.length<=N.length:=by have:=congrArg List.length S.pre;rw [cb] at this;(first|lia|omega)
 obtain⟨h1,tk,rfl,hk⟩:=x.done;have noA:∀ b:Addr,b ∉ (lv CX P w K mg base N qual scope f cd A outer s H E).ex:=fun b z=>absurd (show b∈([]:List Addr) from z) (by simp);refine⟨⟨e0.mod,S.kind,rfl,rfl,aj _,fun y z c h1 h2=>?_,fun y hy=>?_,fun y c _ h=>?_,fun _=>hd,Around.frames_deeper e0.frames,.inr ⟨rfl,rfl⟩,fun b z=>absurd z (noA b),e0.bs,e0.bsz,fun b _ _=>noA b,fun b z=>absurd z (noA b),e0.funs,e0.frf,e0.sr,⟨_,_,rfl,S.gen,S.co,rfl,rfl⟩⟩,
  rfl,e0.bare,Un.kept hk,⟨_,x.toInCall.ns,fun i y v h1 h2 h3=>?_⟩,fun y c h=>⟨_,x.cell y c h⟩,e0.hok.fresh (aj _),fun y c h=>?_,fun p hp=>absurd (show p∈([]:List (Addr×Obj)) from hp) (by simp),e0.hok.kept hk,?_⟩
 ·exact name_of_addr x.apart (PySem.mem_of_lookup h1) (PySem.mem_of_lookup h2)
 ·have hy:scope.names.lookup y=some .cell\/scope.names.lookup y=some .free:=hy;rcases hy with hy|hy
  ·exact qp hy
  ·exact absurd rfl (S.nofree _ (PySem.mem_of_lookup hy))
 ·exact cI (x.above y c (PySem.mem_of_lookup h))
 ·have hi:i<vs.length:=by
   unfold start at h2;by_cases hi:i<vs.length
   ·exact hi
   ·rw [bS (by simpa using hi)] at h2;rw [List.getElem?_replicate] at h2;split at h2 <;> cases h2
  have ha:vs[i]? = some v:=by
   unfold start at h2;rw [bE (by simpa using hi),aV] at h2;cases e:vs[i]? with
   | none=>rw [e] at h2;cases h2
   | some a=>rw [e] at h2;cases h2;rfl
  obtain⟨u,hu,rv⟩:=r.get ha;have hp:ps[i]? = some y:=by
   rw [← S.pre,List.getElem?_take_of_lt (by first|lia|omega)];exact h1
  have ndP:ps.Nodup:=by rw [← S.pre];exact S.nd.sublist (List.take_sublist _ _)
  refine⟨u,rv,?_⟩;rcases S.par y (aK hp) with k|k
  ·exact .inl ⟨k,ot ndP hp hu k⟩
  ·obtain⟨c,e⟩:=qp (n:=s.heap.objs.size+1) k;refine .inr ⟨.inl k,c,e,?_⟩;have q:=x.cell y c e;rw [oy ndP hp hu (by show scope.names.lookup y≠_;rw [k];decide)] at q;exact q
 ·exact e0.hok.fresh (cI (x.above y c (PySem.mem_of_lookup h)))
 ·unfold start;show _=N.length;rw [aF,aH,cu]
  (first|lia|omega)
theorem xQ{CX:rF}{P:Program}{w:World}{K:Frag}{mg:Str->Option Value}{base:Heap}{k:Nat}{f:Addr}{name qual:Str}{params:Arguments}{body:List Stmt}{scope:Scope}{dV kV doc pm cdv ct oc:Value}{an od:Option Addr}
  {osl:Array (Option Value)} {N ps:List Str} {sp:Sp} (lk:K.lookup f=some ⟨oc,od,.func (PySem.W.fnOf name qual params body scope dV kV doc pm an cdv ct),osl⟩) (hcd:PySem.W.codeIn K cdv qual=true) (S:FnScope N ps scope)
  (len:∀ vs H Q E,sp vs H Q E->vs.length=ps.length)
  (hbody:∀(A:Around) (outer:List Env) (s:Shared) (H:Hp) (vs:List V) (Q:VK) (E:XK),Room k (A.deeper (envOfC qual scope s.heap.objs.size f cdv))->sp vs H Q E ->
   ∃ t,PSs (lv CX P w K mg base N qual scope f cdv A outer s H E) body t/\t { nx:=fun _ H'=>Q .non H',rt:=Q } (start N vs) H) :
  FnOk P w K mg base CX (k+1) f (PySem.W.fnOf name qual params body scope dV kV doc pm an cdv ct) ps sp:=by
 refine⟨len,fun A outer s H args us vs Q E hr e0 hb r hsp=>?_⟩;have hl:=len _ _ _ _ hsp;have KX:K.In s.heap:=e0.mod.kin.keeps fun b o e=>(e0.bs b o e).1;have lim:s.heap.NoLimit:=e0.mod.nolimit.keeps fun b o e=>(e0.bs b o e).1;have hkind:∀ y∈ps.zip us,scope.names.lookup y.1=some .local\/(scope.names.lookup y.1=some .cell/\((cellsFrom (s.heap.objs.size+1) scope.names []).lookup y.1).isSome=true):=fun⟨n,v⟩ hy=>by
  rcases S.par n (cM hy).1 with q|q
  ·exact .inl q
  ·exact .inr ⟨q,PySem.W.cellsFrom_some _ _ _ (.inl q)⟩
 refine codeAny_call_function hr.depth (KX _ _ lk) rfl S.co S.gen rfl (PySem.W.codeRec_of KX hcd) (hb _ _ _ _ ?_);refine wpAny_newFunctionEnv_cells S.kind hkind fun env he s1 x=>?_;subst he;refine⟨lim.keeps x.toInCall.keep,codeAny_func ?_⟩;obtain⟨t,ht,hq⟩:=hbody A outer s H vs Q E (hr.deeper _) hsp;have I:Inv (lv CX P w K mg base N qual scope f cdv A outer s H E) [] (start N vs) H s1:=tK S hr.hd e0 hl r x;refine wpAny_mono (ht [] s1 (start N vs) H _ I hq) (fun fl s' hs=>?_) fun e s' hs=>hs;have fin:∀{σ':St} {H':Hp} {v:V} {u:Value},Inv (lv CX P w K mg base N qual scope f cdv A outer s H E) [] σ' H' s'->RelV v u->Q v H'->CE outer P w H s Q u s' :=
  fun {σ' H' v u} J rv q=>⟨v,H',J.os,J.bare,J.base,J.hok,rv,q⟩
 cases fl with
 | ret u =>
  obtain⟨v,σ',H',J,rv,q⟩:=hs;exact fin J rv q
 | next =>
  obtain⟨σ',H',J,q⟩:=hs;exact fin (v:=V.non) (u:=Value.none) J rfl q
 | brk =>
  obtain⟨_,_,_,q⟩:=hs;exact False.elim q
 | cont =>
  obtain⟨_,_,_,q⟩:=hs;exact False.elim q
end L2
namespace L2
open PySem PySem.Spec PyProof.Rows
section
variable{X:Cx}{x:Str}{p pos:Pos}{e:Expr}{es:List Expr}{t:TA}{id T:String}{r:List V->Hp->VK->Prop}
def Bm(r:List V->Hp->VK->Prop)(t:TA):TE:=fun σ H Q=>t σ H fun vs H1=>r vs H1 Q
theorem jt(hc:CallR X (.builtin id) r)(hg:Gl X x)(hm:X.mg x=none)(hv:bootBuiltins x=some (.builtin id))(ha:PA X (e::es) t)(hn:x ≠ "__name__" := by decide)(hdb:(x == ("__debug__" : Str))=false:=by decide)
  (he:starEach (e::es) X.env=(false,eval e X.env)::starEach es X.env:=by rfl) (hpl:(backTo pos (starEach es X.env)).any (·.1)=false:=by rfl):PE X (.Call (.Name x p) (e::es) [] pos) (Bm r t):=by
 intro pins s σ H Q I h;refine wpAny_Call_Name_kw (kA I hg hm hv ?_ hn hdb);exact PyProof.Rows.callWith_builtin1 (jv (ha pos pins s σ H _ I h) fun us s1 ⟨vs,H1,I1,r1,q1⟩=>hc pins s1 σ H1 vs us Q I1 r1 q1) he hpl
theorem mh(hc:CallR X (.type T) r)(hg:Gl X x)(hm:X.mg x=none)(hv:bootBuiltins x=some (.type T))(ha:PA X (e::es) t)(hn:x ≠ "__name__" := by decide)(hdb:(x == ("__debug__" : Str))=false:=by decide)
  (he:starEach (e::es) X.env=(false,eval e X.env)::starEach es X.env:=by rfl) (hpl:(backTo pos (starEach es X.env)).any (·.1)=false:=by rfl):PE X (.Call (.Name x p) (e::es) [] pos) (Bm r t):=by
 intro pins s σ H Q I h;refine wpAny_Call_Name_kw (kA I hg hm hv ?_ hn hdb);exact PyProof.Rows.callWith_type1 (jv (ha pos pins s σ H _ I h) fun us s1 ⟨vs,H1,I1,r1,q1⟩=>hc pins s1 σ H1 vs us Q I1 r1 q1) he hpl
end
end L2
namespace HT
open PySem PyProof.Rows
section
open PySem.SeqAt
open PySem.AutoSeq1 (wpAny_loadPart')
open PySem.MeetsSeq PySem.MeetsSeq2 PySem.MeetsSeq3
end
section
variable{prog:Program}{w:World}{A:Around}{E:Value->Shared->Prop}{s:Shared}
theorem xh{t b:Addr}{vs ws:List Value}{Q:Value->Shared->Prop}(ht:IsTup s.heap t vs.toArray)(hb:IsTup s.heap b ws.toArray)(hv:vs≠[])
  (h1:ws=[]->Q (.ref t) s) (h2:ws≠[]->Q (.ref s.heap.objs.size) { s with heap:=s.heap.push { cls:=.type "tuple",data:=.seq (vs++ws).toArray } })
  (hsz:vs.length+ws.length<=sizeLine):wpAny (model prog w) A (binaryOp .Add (.ref t) (.ref b)) Q E s:=by
 obtain⟨⟨cls,dd,data,sl⟩,ho,hc,n,hd⟩:=id ht;obtain⟨⟨cls2,dd2,data2,sl2⟩,ho2,hc2,n2,hd2⟩:=id hb;simp only at hc hd hc2 hd2;subst hc hd hc2 hd2;have e:vs.toArray++ws.toArray=(vs++ws).toArray:=by simp
 by_cases hw:ws=[]
 ·exact concat_meets ⟨_,ho,rfl⟩ ⟨_,ho2,rfl⟩ noFill_tuple_add seq_tuple_add PySem.F.slot_tuple_add PySem.F.entry_tuple_add (PySem.F.args_tuple_add_2 _ _)
   (tuple_addW1 t b vs.toArray ws.toArray n n2 dd dd2 sl sl2 (by simpa using hv) (by simp [hw])) ⟨ho,ho2,h1 hw⟩
 ·refine concat_meets ⟨_,ho,rfl⟩ ⟨_,ho2,rfl⟩ noFill_tuple_add seq_tuple_add PySem.F.slot_tuple_add PySem.F.entry_tuple_add (PySem.F.args_tuple_add_2 _ _)
   (tuple_addW2 t b vs.toArray ws.toArray n n2 dd dd2 sl sl2 (by simpa using hv) (by simpa using hw) (by rw [af,af];exact hsz)) ⟨ho,ho2,?_⟩
  rw [e];exact h2 hw
def jF(n d:Nat):Option Int->Nat
 | none=>d
 | some v=>if v<0 then (v+(n:Int)).toNat else min v.toNat n
theorem yi(n d:Nat)(hd:d<=n)(o:Option Int):jF n d o<=n:=by
 cases o with
 | none=>exact hd
 | some v =>
  show (if v<0 then (v+(n:Int)).toNat else min v.toNat n)<=n;by_cases hv:v<0
  ·rw [if_pos hv];(first|lia|omega)
  ·rw [if_neg hv];exact Nat.min_le_right _ _
theorem sC(v:Int)(n d:Nat):(if v<0 then max (v+(n:Int)) 0 else min v (n:Int))=((jF n d (some v):Nat):Int):=by
 show (if v<0 then max (v+(n:Int)) 0 else min v (n:Int))=(((if v<0 then (v+(n:Int)).toNat else min v.toNat n):Nat):Int);by_cases hv:v<0
 ·simp only [if_pos hv];(first|lia|omega)
 ·simp only [if_neg hv];(first|lia|omega)
theorem rD(lo hi:Option Int)(n:Nat):Builtin.Slice.sliceAdjust lo hi 1 (n:Int)=(((jF n 0 lo:Nat):Int),((jF n n hi:Nat):Int)):=by
 have h1:¬ ((1:Int)<0):=by first|lia|omega
 unfold Builtin.Slice.sliceAdjust;simp only [h1,if_false];refine Prod.ext ?_ ?_
 ·cases lo with
  | none=>rfl
  | some v=>exact sC v n 0
 ·cases hi with
  | none=>rfl
  | some v=>exact sC v n n
theorem qI(i j:Nat):Builtin.Slice.slicePlaces (i:Int) (j:Int) 1=j-i:=by
 unfold Builtin.Slice.slicePlaces;have h1:(1:Int) > 0:=by first|lia|omega
 simp only [h1,if_true,Int.ediv_one];split <;> (first|lia|omega)
theorem j8{v:Value}{o:Option Int}{Q:Option Int->Shared->Prop}(p:IsPart v o)(h:Q o s):wpAny (model prog w) A (Builtin.Slice.slicePartIndex v) Q E s:=by
 cases p with
 | none=>exact slicePart_none h
 | int i t=>exact slicePart_int h
theorem j5{sl:Addr}{vl vu:Value}{lo hi:Option Int}{n:Nat}{Q:Int×Int×Nat->Shared->Prop}(hs:s.heap.IsSliceOf sl vl vu .none)(pl:IsPart vl lo)(pu:IsPart vu hi)
  (h:Q (((jF n 0 lo:Nat):Int),1,jF n n hi-jF n 0 lo) s):wpAny (model prog w) A (Builtin.Slice.sliceApplied (.ref sl) (pure (n:Int))) Q E s:=by
 obtain⟨os,hos,hcs,hds⟩:=id hs;unfold Builtin.Slice.sliceApplied Builtin.Slice.sliceFields;refine wpAny_bind (wpAny_bind (wpAny_field hos hds (x:=vl) rfl (wpAny_bind (wpAny_field hos hds (x:=vu) rfl (wpAny_bind (wpAny_field hos hds (x:=.none) rfl (wpAny_pure ?_)))))));refine wpAny_bind (slicePart_none ?_);show wpAny _ _ (if ((1:Int) == 0)=true then _ else _) _ _ s;rw [if_neg (by decide)];refine wpAny_bind (j8 pl (wpAny_bind (j8 pu (wpAny_bind (wpAny_pure ?_)))));show wpAny _ _ (match Builtin.Slice.sliceAdjust lo hi 1 (n:Int) with|(lo,hi)=>pure (lo,(1:Int),Builtin.Slice.slicePlaces lo hi 1)) _ _ s;rw [rD lo hi n];show wpAny _ _ (pure (((jF n 0 lo:Nat):Int),(1:Int),Builtin.Slice.slicePlaces ((jF n 0 lo:Nat):Int) ((jF n n hi:Nat):Int) 1)) _ _ s;rw [qI];exact wpAny_pure h
theorem uz(xs:Array Value)(i k:Nat):((List.range k).filterMap fun (m:Nat)=>xs[((i:Int)+(m:Int)*1).toNat]?).toArray=((xs.toList.drop i).take k).toArray:=by
 have e:(fun (m:Nat)=>xs[((i:Int)+(m:Int)*1).toNat]?)=fun m=>xs[i+m]?:=by
  funext m;have:((i:Int)+(m:Int)*1).toNat=i+m:=by first|lia|omega
  rw [this]
 rw [e];have:=pick_run xs i k;rw [List.filterMap_map] at this;have e2:((fun x=>xs[x]?)∘fun x=>i+x)=fun m=>xs[i+m]?:=rfl;rw [e2] at this;rw [this]
theorem lQ{t sl:Addr}{items:Array Value}{vl vu:Value}{lo hi:Option Int}{Q:Value->Shared->Prop}(ht:IsTup s.heap t items)(hs:s.heap.IsSliceOf sl vl vu .none)(pl:IsPart vl lo)(pu:IsPart vu hi)
  (hw:¬ (jF items.size 0 lo=0/\jF items.size items.size hi=items.size))
  (h:Q (.ref s.heap.objs.size) { s with heap:=s.heap.push { cls:=.type "tuple",data:=.seq ((items.toList.drop (jF items.size 0 lo)).take (jF items.size items.size hi-jF items.size 0 lo)).toArray } })
  (hsz:items.size<=sizeLine):wpAny (model prog w) A (getItem (.ref t) (.ref sl)) Q E s:=by
 have htake:sizeOk (.seq ((items.toList.drop (jF items.size 0 lo)).take (jF items.size items.size hi-jF items.size 0 lo)).toArray):=by
  show ((items.toList.drop (jF items.size 0 lo)).take (jF items.size items.size hi-jF items.size 0 lo)).toArray.size<=sizeLine;rw [af,cb,ce,bP]
  (first|lia|omega)
 have hj:jF items.size items.size hi<=items.size:=yi _ _ (aj _) hi;obtain⟨os,hos,hcs,hds⟩:=id hs;have hTs:s.TypeIs (.ref sl) "slice" := ⟨os,hos,hcs⟩;unfold getItem;try with_reducible refine wpAny_holding ?_
 first|refine wpAny_bind (wpAny_pure ?_)|skip
 refine wpAny_bind (wpAny_sequenceKey ht.typeIs (by decide) ?_);refine wpAny_bind (wpAny_callSpecial?_slot (name:=Str.ofString "__getitem__") ht.typeIs PyProof.Rows.slot_tuple_getitem
  (wpAny_call_entry PyProof.Rows.slot_tuple_getitem ht.typeIs entry_tuple_getitem ?_ (args_tuple_getitem _ _)))
 show wpAny _ _ (Builtin.Tuple.tupleItemsOf (.ref t) >>= _) _ _ s;refine wpAny_bind (tupleItemsOf_ ht ?_);refine wpAny_bind (wpAny_typeOf hTs ?_);rw [if_pos (by decide)];refine wpAny_bind (j5 hs pl pu ?_);have hno:¬ ((((jF items.size 0 lo:Nat):Int) == 0 && (1:Int) == 1 && (jF items.size items.size hi-jF items.size 0 lo) == items.size)=true):=by
  intro q;rw [ax,ax] at q;have q1:((jF items.size 0 lo:Nat):Int)=0:=eq_of_beq q.1.1;have q2:jF items.size items.size hi-jF items.size 0 lo=items.size:=eq_of_beq q.2;exact hw ⟨by first|lia|omega,by first|lia|omega⟩
 show wpAny _ _ (if (((jF items.size 0 lo:Nat):Int) == 0 && (1:Int) == 1 && (jF items.size items.size hi-jF items.size 0 lo) == items.size)=true then _ else _) _ _ s;rw [if_neg hno,uz];first
  | exact wpAny_bind (m:=Builtin.Tuple.tupleExact _) (wpAny_newObj_type (wpAny_pure ⟨_,rfl,wpAny_pure h⟩) htake)
  | exact wpAny_bind (m:=Builtin.Tuple.tupleExact _) (wpAny_newObj_type (wpAny_bind (wpAny_pure (wpAny_pure ⟨_,rfl,wpAny_pure h⟩))) htake)
  | exact wpAny_bind (wpAny_bind (m:=Builtin.Tuple.tupleExact _) (wpAny_newObj_type (wpAny_pure (wpAny_pure ⟨_,rfl,wpAny_pure h⟩)) htake))
  | exact wpAny_bind (wpAny_bind (m:=Builtin.Tuple.tupleExact _) (wpAny_newObj_type (wpAny_pure ⟨_,rfl,wpAny_pure h⟩) htake))
end
end HT
namespace L2
open PySem PySem.Spec PyProof.Rows
abbrev TO:=St->Hp->(Option Int->Hp->Prop)->Prop
def PO(X:Cx)(e:Option Expr)(t:TO):Prop :=
 ∀(pins:List (Addr×Obj)) (s:Shared) (σ:St) (H:Hp) (Q:Option Int->Hp->Prop),Inv X pins σ H s->t σ H Q ->
  wpAny (model X.prog X.w) X.A (evalPart e X.env) (fun u s'=>∃ o H',Inv X pins σ H' s'/\IsPart u o/\Q o H') X.xe s
def vU:TO:=fun _ H Q=>Q none H
def zS(t:TE):TO:=fun σ H Q=>t σ H fun x H1=>∃ i,x = .int i/\Q (some i) H1
section
variable{X:Cx}{e:Expr}{te:TE}{lo hi:Option Expr}{tl th:TO}{pos p2:Pos}
theorem po_none:PO X none vU:=by
 intro pins s σ H Q I h;rw [evalPart_none];exact wpAny_pure ⟨none,H,I,.none,h⟩
theorem mQ(h:PE X e te):PO X (some e) (zS te):=by
 intro pins s σ H Q I hw;rw [evalPart_some];refine jv (h pins s σ H _ I hw) fun u s1 ⟨x,H1,I1,r1,q1⟩=>?_;obtain⟨i,rfl,q⟩:=q1;obtain⟨t,rfl⟩:=r1;exact⟨some i,H1,I1,.int i t,q⟩
def SlR(X:Cx)(r:V->Option Int->Option Int->Hp->VK->Prop):Prop :=
 ∀(pins:List (Addr×Obj)) (s:Shared) (σ:St) (H:Hp) (x:V) (v vl vu:Value) (lo hi:Option Int) (sl:Addr) (Q:VK),Inv X pins σ H s->RelV x v->s.heap.IsSliceOf sl vl vu .none->IsPart vl lo->IsPart vu hi->r x lo hi H Q ->
  ∃ T id,typeLookup (.type T) "__getitem__" = pure (some (.builtin id))/\s.TypeIs v T/\wpAny (model X.prog X.w) X.A (getItem v (.ref sl)) (EP X pins σ Q) X.xe s
theorem SlR.or{r r':V->Option Int->Option Int->Hp->VK->Prop}(h:SlR X r)(h':SlR X r'):SlR X (fun x lo hi H Q=>r x lo hi H Q\/r' x lo hi H Q):=by
 intro pins s σ H x v vl vu lo hi sl Q I rx hs pl pu q;rcases q with q|q
 ·exact h pins s σ H x v vl vu lo hi sl Q I rx hs pl pu q
 ·exact h' pins s σ H x v vl vu lo hi sl Q I rx hs pl pu q
def CH(r:V->Option Int->Option Int->Hp->VK->Prop)(te:TE)(tl th:TO):TE:=fun σ H Q=>te σ H fun x H1=>tl σ H1 fun l H2=>th σ H2 fun u H3=>r x l u H3 Q
theorem uC{r:V->Option Int->Option Int->Hp->VK->Prop}(hr:SlR X r)(he:PE X e te)(hl:PO X lo tl)(hu:PO X hi th):PE X (.Subscript e (.Slice lo hi none p2) pos) (CH r te tl th):=by
 intro pins s σ H Q I h;refine Subscript_ (jv (he pins s σ H _ I h) fun v s1 ⟨x,H1,I1,r1,q1⟩=>?_);refine wpAny_Slice (jv (hl pins s1 σ H1 _ I1 q1) fun vl s2 ⟨l,H2,I2,pl,q2⟩=>jv (hu pins s2 σ H2 _ I2 q2) fun vu s3 ⟨u,H3,I3,pu,q3⟩=>?_);rw [evalPart_none];refine wpAny_pure ?_;have I4:Inv X pins σ H3 { s3 with heap:=s3.heap.push { cls:=.type "slice",data:=.fields #[vl,vu,.none] } }:=I3.kept (t':=s3.toks) fun b ob q=>Heap.get?_push_of_some _ q;obtain⟨T,id,hT,ht,hg⟩:=hr pins { s3 with heap:=s3.heap.push { cls:=.type "slice",data:=.fields #[vl,vu,.none] } } σ H3 x v vl vu l u s3.heap.objs.size Q I4 r1 (Heap.IsSliceOf.new ..) pl pu q3;show wpAny (model X.prog X.w) X.A (subscriptTail e (.Slice lo hi none p2) v (.ref s3.heap.objs.size)) (EP X pins σ Q) X.xe { s3 with heap:=s3.heap.push { cls:=.type "slice",data:=.fields #[vl,vu,.none] } };exact tail_any (ops:=[.ref s3.heap.objs.size,v]) ht hT hg (by with_unfolding_all rfl)
def ql(xs:List V)(lo hi:Option Int):List V:=(xs.drop (HT.jF xs.length 0 lo)).take (HT.jF xs.length xs.length hi-HT.jF xs.length 0 lo)
theorem mJ(xs:List V)(lo hi:Option Int):(ql xs lo hi).length<=xs.length:=by
 unfold ql;rw [cb,ce]
 (first|lia|omega)
def Bu(K:Frag):V->Option Int->Option Int->Hp->VK->Prop:=fun x lo hi H Q=>∃ a xs,x = .ref a/\SqT K H a xs /\
 ¬ (HT.jF xs.length 0 lo=0/\HT.jF xs.length xs.length hi=xs.length)/\∀ p,H p=none->Q (.ref p) (jr H p (.tup (ql xs lo hi)))
theorem sl_tup:SlR X (Bu X.K):=by
 intro pins s σ H x v vl vu lo hi sl Q I rx hs pl pu h;obtain⟨a,xs,rfl,hx,hw,q⟩:=h;cases rx;obtain⟨its,r,ht,hz⟩:=I.tuple hx;have hlen:its.toArray.size=xs.length:=by rw [af];exact r.length.symm
 refine⟨"tuple",_,PyProof.Rows.slot_tuple_getitem.lookup,ht.typeIs,?_⟩;refine HT.lQ ht hs pl pu (by rw [hlen];exact hw) ?_ (by rw [hlen];exact hz);rw [hlen];refine⟨.ref s.heap.objs.size,_,I.laid (t':=s.toks) (o:=.tup (ql xs lo hi)) (fun b ob q=>Heap.get?_push_of_some _ q) (aj _) ?_,rfl,q _ (I.hok.fresh (aj _))⟩;exact⟨az (mJ xs lo hi) hz,_,(r.drop (HT.jF xs.length 0 lo)).take (HT.jF xs.length xs.length hi-HT.jF xs.length 0 lo),IsTup.new _ _⟩
def Ai(K:Frag):R2:=fun x y H Q=>∃ a b xs ys,x = .ref a/\y = .ref b/\SqT K H a xs/\SqT K H b ys/\xs≠[]/\xs.length+ys.length<=sizeLine /\
 (ys=[]->Q (.ref a) H)/\(ys≠[]->∀ p,H p=none->Q (.ref p) (jr H p (.tup (xs++ys))))
theorem Vals.nil_iff{xs:List V}{us:List Value}(r:Vals xs us):us=[]↔xs=[]:=by
 cases r with
 | nil=>simp
 | cons _ _=>simp
theorem wq:OpR X (binaryOp .Add) (Ai X.K):=by
 intro pins s σ H x y v u Q I rx ry h;obtain⟨a,b,xs,ys,rfl,rfl,ha,hb,hx,hz,q1,q2⟩:=h;cases rx;cases ry;obtain⟨its,r1,p1,_⟩:=I.tuple ha;obtain⟨its2,r2,p2,_⟩:=I.tuple hb;refine HT.xh p1 p2 (fun z=>hx (r1.nil_iff.mp z)) (fun z=>⟨.ref a,H,I,rfl,q1 (r2.nil_iff.mp z)⟩) (fun z=>?_) (by rw [← r1.length,← r2.length];exact hz);refine⟨.ref s.heap.objs.size,_,I.laid (t':=s.toks) (o:=.tup (xs++ys)) (fun b ob q=>Heap.get?_push_of_some _ q) (aj _) ?_,rfl,q2 (fun w=>z (r2.nil_iff.mpr w)) _ (I.hok.fresh (aj _))⟩;exact⟨by rw [aF];exact hz,_,r1.append r2,IsTup.new _ _⟩
end
end L2
namespace L2
open PySem PySem.Spec PyProof.Rows
def vO(n:Nat)(i:Int):Option Nat:=if 0<=i then (if i<n then some i.toNat else none) else if -(n:Int)<=i then some (i+n).toNat else none
def tV{α:Type}(xs:List α)(i:Int):Option α:=(vO xs.length i).bind fun j=>xs[j]?
theorem sd{n:Nat}{i:Int}{j:Nat}(h:vO n i=some j):seqIndex? i n=some j/\j<n /\ -(n:Int)<=i/\i<n:=by
 unfold vO at h;by_cases h0:0<=i
 ·rw [if_pos h0] at h;by_cases h1:i<n
  ·rw [if_pos h1] at h;have e:i.toNat=j:=Option.some.inj h;exact⟨by rw [seqIndex_of h0 h1,e],by first|lia|omega,by first|lia|omega,h1⟩
  ·rw [if_neg h1] at h;cases h
 ·rw [if_neg h0] at h;by_cases h1 : -(n:Int)<=i
  ·rw [if_pos h1] at h;have e:(i+n).toNat=j:=Option.some.inj h;exact⟨by rw [seqIndex_neg (by first|lia|omega) h1,e],by first|lia|omega,h1,by first|lia|omega⟩
  ·rw [if_neg h1] at h;cases h
theorem pq{α:Type}{xs:List α}{i:Int}{v:α}(h:tV xs i=some v):∃ j,seqIndex? i xs.length=some j/\xs[j]? = some v/\j<xs.length /\ -(xs.length:Int)<=i/\i<xs.length:=by
 unfold tV at h;cases e:vO xs.length i with
 | none=>rw [e] at h;cases h
 | some j =>
  rw [e] at h;obtain⟨h1,h2,h3,h4⟩:=sd e;exact⟨j,h1,h,h2,h3,h4⟩
theorem kQ{α:Type}{xs:List α}{j:Nat}{v:α}(h:xs[j]? = some v):tV xs (j:Int)=some v:=by
 have hj:j<xs.length:=(av.mp h).1;have e:vO xs.length (j:Int)=some j:=by
  unfold vO;rw [if_pos (by first|lia|omega),if_pos (by first|lia|omega)];simp
 unfold tV;rw [e];exact h
def mV(b:Expr):Prop:=∀ o i,subscripted b false o i=operate [o,i] (getItem o i)
def IxR(X:Cx)(r:R2):Prop :=
 ∀(value slice:Expr) (pins:List (Addr×Obj)) (s:Shared) (σ:St) (H:Hp) (x y:V) (v u:Value) (Q:VK),Inv X pins σ H s->RelV x v->RelV y u->r x y H Q ->
  subscripted slice false v u=operate [v,u] (getItem v u)->wpAny (model X.prog X.w) X.A (subscriptTail value slice v u) (EP X pins σ Q) X.xe s
def zJ(X:Cx)(id:String)(r:V->List V->Hp->VK->Prop):Prop :=
 ∀(pins:List (Addr×Obj)) (s:Shared) (σ:St) (H:Hp) (x:V) (xs:List V) (v:Value) (us:List Value) (Q:VK),Inv X pins σ H s->RelV x v->Vals xs us->r x xs H Q ->
  wpAny (model X.prog X.w) X.A (call (.builtin id) (v::us)) (EP X pins σ Q) X.xe s
section
variable{X:Cx}{a b:Expr}{ta tb:TE}{pos:Pos}
theorem IxR.or{r r':R2}(h:IxR X r)(h':IxR X r'):IxR X (fun x y H Q=>r x y H Q\/r' x y H Q):=by
 intro value slice pins s σ H x y v u Q I rx ry q hs;rcases q with q|q
 ·exact h value slice pins s σ H x y v u Q I rx ry q hs
 ·exact h' value slice pins s σ H x y v u Q I rx ry q hs
theorem jH{r:R2}(hr:IxR X r)(ha:PE X a ta)(hb:PE X b tb)(hs:mV b):PE X (.Subscript a b pos) (zT r ta tb):=by
 intro pins s σ H Q I h;exact Subscript_ (zu ha hb I h fun v u s2 x y H2 I2 rx ry q=>hr a b pins s2 σ H2 x y v u Q I2 rx ry q (hs _ _))
def yv(K:Frag):R2:=fun x y H Q=>∃ p xs i v,x = .ref p/\y = .int i/\SqL K H p xs/\tV xs i=some v/\Q v H
def Ac(K:Frag):R2:=fun x y H Q=>∃ p xs i v,x = .ref p/\y = .int i/\SqT K H p xs/\tV xs i=some v/\Q v H
def Ad:R2:=fun x y H Q=>∃ z i c,x = .str z/\y = .int i/\z.length<=sizeLine/\tV z.cps.toList i=some c/\Q (.str ⟨#[c]⟩) H
theorem ix_list:IxR X (yv X.K):=by
 intro value slice pins s σ H x y v u Q I rx ry h hs;obtain⟨p,xs,i,z,rfl,rfl,hq,he,q⟩:=h;cases rx;obtain⟨t,rfl⟩:=ry;obtain⟨its,r,pl,hz⟩:=I.list hq;obtain⟨j,h1,h2,h3,h4,h5⟩:=pq he;obtain⟨w,ew,rw'⟩:=r.get h2;have hl:=r.length;have hn:=j2;have fin:EP X pins σ Q w s:=⟨z,H,I,rw',q⟩;by_cases h0:0<=i
 ·have hj:i.toNat=j:=by
   rw [seqIndex_of h0 h5] at h1;exact Option.some.inj h1
  exact item_listR pl.isList h0 (by first|lia|omega) (by rw [hj];simpa using ew) fin hs
 ·have hj:(i+(its.toArray.size:Int)).toNat=j:=by
   rw [seqIndex_neg (by first|lia|omega) h4] at h1;rw [af,← hl];exact Option.some.inj h1
  exact subscriptTail_builtinR (x:=w) pl.isList.typeIs slot_list_getitem.lookup
   (wpAny_getItem_list_neg (Q:=fun r s'=>r=w/\EP X pins σ Q r s') pl.isList (by first|lia|omega) (by rw [af] <;> (first|lia|omega)) (by first|lia|omega) (by rw [hj];simpa using ew) ⟨rfl,fin⟩) hs
theorem ix_tup:IxR X (Ac X.K):=by
 intro value slice pins s σ H x y v u Q I rx ry h hs;obtain⟨p,xs,i,z,rfl,rfl,hq,he,q⟩:=h;cases rx;obtain⟨t,rfl⟩:=ry;obtain⟨its,r,pl,hz⟩:=I.tuple hq;obtain⟨j,h1,h2,h3,h4,h5⟩:=pq he;obtain⟨w,ew,rw'⟩:=r.get h2;have hl:=r.length;have hn:=j2;have fin:EP X pins σ Q w s:=⟨z,H,I,rw',q⟩;exact subscriptTail_builtinR (x:=w) pl.typeIs slot_tuple_getitem.lookup
  (getItem_tuple (j:=j) (Q:=fun r s'=>r=w/\EP X pins σ Q r s') pl (by first|lia|omega) (by first|lia|omega) (by rw [af,← hl];exact h1) (by simpa using ew) ⟨rfl,fin⟩) hs
theorem y0:IxR X Ad:=by
 intro value slice pins s σ H x y v u Q I rx ry h hs;obtain⟨z,i,c,rfl,rfl,hz,he,q⟩:=h;obtain⟨t,rfl⟩:=rx;obtain⟨t',rfl⟩:=ry;obtain⟨j,h1,h2,h3,h4,h5⟩:=pq he;have hl:z.cps.toList.length=z.length:=by simp [Str.length]
 rw [hl] at h1 h4 h5;have hn:=j2;exact tail_any (typeIs_str s z t) slot_str_getitem.lookup (getItem_str (c:=c) (by
  have e1:decide (i < -(2^63:Int))=false:=decide_eq_false (by first|lia|omega);have e2:decide (i ≥ 2^63)=false:=decide_eq_false (by first|lia|omega);rw [e1,e2,Bool.or_false]) (by rw [h1];simpa using h2) ⟨.str ⟨#[c]⟩,H,I.tok _,⟨_,rfl⟩,q⟩) hs
def AY(K:Frag):R2:=fun x y H Q=>yv K x y H Q\/Ac K x y H Q\/Ad x y H Q
theorem ix_seq:IxR X (AY X.K):=ix_list.or (ix_tup.or y0)
theorem qT(its:List Value)(n j:Nat)(u:Value):Obj.mapSeq (·.setIfInBounds j u) { cls:=.type "list",data:=.seq its.toArray n } = { cls:=.type "list",data:=.seq (its.set j u).toArray n }:=by
 simp [Obj.mapSeq]
theorem Inv.lst{pins:List (Addr×Obj)}{σ:St}{H:Hp}{s:Shared}{p:Addr}{xs:List V}(I:Inv X pins σ H s)(h:H p=some (.lst xs)) :
  ∃(its:List Value) (n:Nat),Vals xs its/\s.heap.get? p=some { cls:=.type "list",data:=.seq its.toArray n }/\xs.length<=sizeLine:=by
 obtain⟨z,its,n,r,e⟩:=I.hok p _ h;exact⟨its,n,r,e,z⟩
theorem Inv.lstUpd{pins:List (Addr×Obj)}{σ:St}{H:Hp}{s:Shared}{p:Addr}{xs ys:List V}{its its':List Value}{n n':Nat}{f:Obj->Obj}(I:Inv X pins σ H s)(h:H p=some (.lst xs))
  (ho:s.heap.get? p=some { cls:=.type "list",data:=.seq its.toArray n }) (hf:f { cls:=.type "list",data:=.seq its.toArray n } = { cls:=.type "list",data:=.seq its'.toArray n' }) (r:Vals ys its') (hz:ys.length<=sizeLine) (t:Nat) :
  Inv X pins σ (jr H p (.lst ys)) { s with heap:=s.heap.update p f,toks:=t }:=by
 have e:(s.heap.update p f).get? p=some { cls:=.type "list",data:=.seq its'.toArray n' }:=by
  rw [Heap.get?_update_self f ho (by rw [hf] <;> rfl),hf]
 refine I.write (x:=p) (e:=p) (by rw [h];trivial) (.inl rfl) (fun b u hb q=>(Heap.get?_update_other _ _ (Ne.symm hb)).trans q) ⟨_,e⟩ ?_;exact⟨hz,its',n',r,e⟩
def xD:V->V->V->Hp->(Hp->Prop)->Prop:=fun o i v H Q=>∃ p xs k j,o = .ref p/\i = .int k/\H p=some (.lst xs)/\vO xs.length k=some j/\Q (jr H p (.lst (xs.set j v)))
theorem jN:zC X xD:=by
 intro pins s σ H o i v ov iv u Q I ro ri rv h;obtain⟨p,xs,k,j,rfl,rfl,hp,hj,q⟩:=h;cases ro;obtain⟨t,rfl⟩:=ri;obtain⟨its,n,r,ho,hz⟩:=I.lst hp;obtain⟨h1,h2,h3,h4⟩:=sd hj;have hl:=r.length;have hn:=j2;have I':Inv X pins σ (jr H p (.lst (xs.set j v))) { s with heap:=s.heap.update p (Obj.mapSeq (·.setIfInBounds j u)) } :=
  I.lstUpd hp ho (qT its n j u) (r.set rv j) (by rw [aO];exact hz) s.toks
 by_cases h0:0<=k
 ·have hk:k.toNat=j:=by
   rw [seqIndex_of h0 h4] at h1;exact Option.some.inj h1
  exact PySem.W.ki_setAt ho h0 (by first|lia|omega) (by rw [af,← hl];exact h4) (by rw [hk];exact⟨_,I',q⟩)
 ·have hk:(k+(its.toArray.size:Int)).toNat=j:=by
   rw [seqIndex_neg (by first|lia|omega) h3] at h1;rw [af,← hl];exact Option.some.inj h1
  exact PySem.W.ki_setBack ho (by first|lia|omega) (by rw [af,← hl];exact h3) (by first|lia|omega) (by rw [hk];exact⟨_,I',q⟩)
theorem oE(lo hi:Option Int)(n:Nat):(sliceBounds lo hi none n).1=((HT.jF n 0 lo:Nat):Int)/\(sliceBounds lo hi none n).2.1=((HT.jF n n hi:Nat):Int)/\(sliceBounds lo hi none n).2.2=1:=by
 refine⟨?_,?_,rfl⟩
 ·cases lo with
  | none=>simp [sliceBounds,HT.jF]
  | some i =>
   simp only [sliceBounds,HT.jF,dw,show (1:Int) > 0 by decide,if_true];by_cases h:i<0
   ·simp only [h,if_true] <;> (first|lia|omega)
   ·simp only [h,if_false] <;> (first|lia|omega)
 ·cases hi with
  | none=>simp [sliceBounds,HT.jF]
  | some i =>
   simp only [sliceBounds,HT.jF,dw,show (1:Int) > 0 by decide,if_true];by_cases h:i<0
   ·simp only [h,if_true] <;> (first|lia|omega)
   ·simp only [h,if_false] <;> (first|lia|omega)
theorem nM(its:List Value)(lo hi:Option Int):slicePick its.toArray lo hi none=((its.drop (HT.jF its.length 0 lo)).take (HT.jF its.length its.length hi-HT.jF its.length 0 lo)).toArray:=by
 obtain⟨h1,h2,h3⟩:=oE lo hi its.toArray.size;unfold slicePick;rw [h1,h2,h3];simp only [sliceRange_one,pick_run,af] <;> rfl
def Bw(K:Frag):V->Option Int->Option Int->Hp->VK->Prop:=fun x lo hi H Q=>∃ a xs,x = .ref a/\SqL K H a xs/\∀ p,H p=none->Q (.ref p) (jr H p (.lst (ql xs lo hi)))
theorem sl_list:SlR X (Bw X.K):=by
 intro pins s σ H x v vl vu lo hi sl Q I rx hs pl pu h;obtain⟨a,xs,rfl,hx,q⟩:=h;cases rx;obtain⟨its,r,ht,hz⟩:=I.list hx;have hlen:=r.length;refine⟨"list",_,slot_list_getitem.lookup,ht.isList.typeIs,?_⟩;refine wpAny_getItem_list_slice ht.isList hs pl pu .none (by simp) ?_ (by rw [af] <;> (first|lia|omega));rw [nM,← hlen];refine⟨.ref s.heap.objs.size,_,I.laid (t':=s.toks) (o:=.lst (ql xs lo hi)) (fun b ob q=>Heap.get?_push_of_some _ q) (aj _) ?_,rfl,q _ (I.hok.fresh (aj _))⟩;exact⟨az (mJ xs lo hi) hz,_,0,(r.drop (HT.jF xs.length 0 lo)).take (HT.jF xs.length xs.length hi-HT.jF xs.length 0 lo),Heap.get?_push_size _ rfl⟩
def kX:V->Bool
 | .non=>true
 | .bl _=>true
 | .int _=>true
 | .str _=>true
 | _=>false
def xR:V->V->Bool
 | .non,.non=>true
 | .bl a,.bl b=>a == b
 | .bl a,.int b=>(if a then 1 else 0) == b
 | .int a,.bl b=>a == (if b then 1 else 0)
 | .int a,.int b=>a == b
 | .str a,.str b=>a == b
 | _,_=>false
theorem zh{A:Around}{s:Shared}{y x:V}{u v:Value}(ry:RelV y u)(rx:RelV x v)(fy:kX y=true)(fx:kX x=true):SeqAt.EqAt A s u v (xR y x):=by
 cases y with
 | non =>
  cases ry;cases x with
  | non=>cases rx;exact SeqAt.EqAt.same _
  | bl b=>cases rx;exact SeqAt.EqAt.none_bool b
  | int b=>obtain⟨t,rfl⟩:=rx;exact SeqAt.EqAt.none_int b t
  | str b=>obtain⟨t,rfl⟩:=rx;exact SeqAt.EqAt.none_str b t
  | _=>exact absurd (show false=true from fx) ao
 | bl a =>
  cases ry;cases x with
  | non=>cases rx;exact SeqAt.EqAt.bool_none a
  | bl b=>cases rx;exact SeqAt.EqAt.bool_bool a b
  | int b=>obtain⟨t,rfl⟩:=rx;exact SeqAt.EqAt.bool_int a b t
  | str b=>obtain⟨t,rfl⟩:=rx;exact SeqAt.EqAt.bool_str a b t
  | _=>exact absurd (show false=true from fx) ao
 | int a =>
  obtain⟨t',rfl⟩:=ry;cases x with
  | non=>cases rx;exact SeqAt.EqAt.int_none a t'
  | bl b=>cases rx;exact SeqAt.EqAt.int_bool a t' b
  | int b=>obtain⟨t,rfl⟩:=rx;exact SeqAt.EqAt.int_int a t' b t
  | str b=>obtain⟨t,rfl⟩:=rx;exact SeqAt.EqAt.int_str a t' b t
  | _=>exact absurd (show false=true from fx) ao
 | str a =>
  obtain⟨t',rfl⟩:=ry;cases x with
  | non=>cases rx;exact SeqAt.EqAt.str_none a t'
  | bl b=>cases rx;exact SeqAt.EqAt.str_bool a t' b
  | int b=>obtain⟨t,rfl⟩:=rx;exact SeqAt.EqAt.str_int a t' b t
  | str b=>obtain⟨t,rfl⟩:=rx;exact SeqAt.EqAt.str_str a t' b t
  | _=>exact absurd (show false=true from fx) ao
 | _=>exact absurd (show false=true from fy) ao
def rb(x:V)(u:Value):Bool:=match u with
 | .none=>xR .non x
 | .bool b=>xR (.bl b) x
 | .int i _=>xR (.int i) x
 | .str z _=>xR (.str z) x
 | _=>false
theorem vo{x y:V}{u:Value}(r:RelV y u)(f:kX y=true):rb x u=xR y x:=by
 cases y with
 | non=>cases r;rfl
 | bl b=>cases r;rfl
 | int i=>obtain⟨t,rfl⟩:=r;rfl
 | str z=>obtain⟨t,rfl⟩:=r;rfl
 | _=>exact absurd (show false=true from f) ao
theorem lV{x:V}:∀{xs:List V} {us:List Value},Vals xs us->xs.all kX=true->us.any (rb x)=xs.any fun y=>xR y x
 | _,_,.nil,_=>rfl
 | y::xs,u::us,.cons r t,f=>by
  rw [b8,ax] at f;rw [bM,bM,vo r f.1,lV t f.2]
theorem kz{A:Around}{s:Shared}{x:V}{v:Value}(rx:RelV x v)(fx:kX x=true):∀{xs:List V} {us:List Value},Vals xs us->xs.all kX=true->∀ u∈us,SeqAt.EqAt A s u v (rb x u)
 | _,_,.nil,_=>fun u hu=>by cases hu
 | y::xs,u::us,.cons r t,f=>fun u' hu=>by
  rw [b8,ax] at f;rcases ai.mp hu with rfl|hu
  ·rw [vo r f.1];exact zh r rx f.1 fx
  ·exact kz rx fx t f.2 u' hu
def zH(x:V)(xs:List V):Bool:=xs.any fun y=>xR y x
def Bz(K:Frag)(neg:Bool):R2:=fun x y H Q=>∃ p xs,y = .ref p/\(SqL K H p xs\/SqT K H p xs)/\kX x=true/\xs.all kX=true/\Q (.bl (if neg then !zH x xs else zH x xs)) H
theorem s9:OpR X (compareOp .In) (Bz X.K false):=by
 intro pins s σ H x y v u Q I rx ry h;obtain⟨p,xs,rfl,hq,fx,fs,q⟩:=h;cases ry;rcases hq with hq|hq
 ·obtain⟨its,r,pl,hz⟩:=I.list hq;refine SeqAt.in_listAt (rb x) pl.isList (fun w hw=>kz rx fx r fs w (by simpa using hw)) ⟨.bl _,H,I,rfl,?_⟩;rw [show its.toArray.any (rb x)=its.any (rb x) by simp,lV r fs];exact q
 ·obtain⟨its,r,pl,hz⟩:=I.tuple hq;refine SeqAt.in_tupleAt (rb x) pl (fun w hw=>kz rx fx r fs w (by simpa using hw)) ⟨.bl _,H,I,rfl,?_⟩;rw [show its.toArray.any (rb x)=its.any (rb x) by simp,lV r fs];exact q
theorem oO:OpR X (compareOp .NotIn) (Bz X.K true):=by
 intro pins s σ H x y v u Q I rx ry h;obtain⟨p,xs,rfl,hq,fx,fs,q⟩:=h;cases ry;rcases hq with hq|hq
 ·obtain⟨its,r,pl,hz⟩:=I.list hq;refine SeqAt.notIn_listAt (rb x) pl.isList (fun w hw=>kz rx fx r fs w (by simpa using hw)) ⟨.bl _,H,I,rfl,?_⟩;rw [show its.toArray.any (rb x)=its.any (rb x) by simp,lV r fs];exact q
 ·obtain⟨its,r,pl,hz⟩:=I.tuple hq;refine SeqAt.notIn_tupleAt (rb x) pl (fun w hw=>kz rx fx r fs w (by simpa using hw)) ⟨.bl _,H,I,rfl,?_⟩;rw [show its.toArray.any (rb x)=its.any (rb x) by simp,lV r fs];exact q
theorem pe:CallR X (.builtin "len") (fun xs H Q=>∃ p ys,xs=[.ref p]/\(SqL X.K H p ys\/SqT X.K H p ys)/\Q (.int ys.length) H):=by
 intro pins s σ H xs us Q I r h;obtain⟨p,ys,rfl,hq,q⟩:=h;obtain⟨u,rfl,rx⟩:=mB r;cases rx;have hn:=j2;rcases hq with hq|hq
 ·obtain⟨its,r',pl,hz⟩:=I.list hq;have hlen:=r'.length;exact Calls.call_len_list pl.isList (by simp only [af] <;> (first|lia|omega)) ⟨.int ys.length,H,I.tok _,⟨s.toks+1,by rw [af,hlen]⟩,q⟩
 ·obtain⟨its,r',pl,hz⟩:=I.tuple hq;have hlen:=r'.length;exact len_tuple pl (by simp only [af] <;> (first|lia|omega)) ⟨.int ys.length,H,I.tok _,⟨s.toks+1,by rw [af,hlen]⟩,q⟩
theorem pd:CallR X (.builtin "len") (fun xs H Q=>∃ z,xs=[.str z]/\z.length<=sizeLine/\Q (.int z.length) H):=by
 intro pins s σ H xs us Q I r h;obtain⟨z,rfl,hz,q⟩:=h;obtain⟨u,rfl,t,rfl⟩:=mB r;have hn:=j2;exact len_str (by first|lia|omega) ⟨.int z.length,H,I.tok _,⟨_,rfl⟩,q⟩
theorem pc:CallR X (.type "list") (fun xs H Q=>∃ p ys,xs=[.ref p]/\(SqL X.K H p ys\/SqT X.K H p ys)/\∀ l,H l=none->Q (.ref l) (jr H l (.lst ys))):=by
 intro pins s σ H xs us Q I r h;obtain⟨p,ys,rfl,hq,q⟩:=h;obtain⟨u,rfl,rx⟩:=mB r;cases rx;have fin:∀(its:List Value),Vals ys its->ys.length<=sizeLine->∀(h':Heap) (c':Nat),(∀ b o',s.heap.get? b=some o'->h'.get? b=some o') ->
   h'.get? s.heap.objs.size=some { cls:=.type "list",dict:=none,data:=.seq its.toArray c',slots:=#[] }->EP X pins σ Q (.ref s.heap.objs.size) { s with heap:=h' }:=fun its r' hz h' c' kp e =>
  ⟨.ref s.heap.objs.size,_,I.laid (t':=s.toks) kp (aj _) (show ObjOk X.prog X.w _ h' _ (.lst ys) from⟨hz,its,c',r',e⟩),rfl,q _ (I.hok.fresh (aj _))⟩
 rcases hq with hq|hq
 ·obtain⟨its,r',pl,hz⟩:=I.list hq;have hlen:=r'.length;obtain⟨o,ho,hc,n,hd⟩:=pl.isList;exact call_list_seq p (.inl rfl) ho hc hd (fun h' c' kp e=>fin its r' hz h' c' kp e) (by simp only [af] <;> (first|lia|omega))
 ·obtain⟨its,r',pl,hz⟩:=I.tuple hq;have hlen:=r'.length;obtain⟨o,ho,hc,n,hd⟩:=pl;exact call_list_seq p (.inr rfl) ho hc hd (fun h' c' kp e=>fin its r' hz h' c' kp e) (by simp only [af] <;> (first|lia|omega))
def A8(K:Frag)(T:String)(x:V)(H:Hp):Prop:=match x with
 | .str _=>T = "str"
 | .int _=>T = "int"
 | .ref p=>(T = "list" /\ ∃ xs,SqL K H p xs)\/(T = "tuple" /\ ∃ o,K.lookup p=some o/\o.cls = .type "tuple" /\ o.dict=none) \/
   (T = "dict" /\ ((∃ kvs,H p=some (.dK kvs))\/∃ kvs,H p=some (.dT kvs)))\/(T = "set" /\ ∃ S n,H p=some (.set S n))
 | _=>False
theorem uc{pins:List (Addr×Obj)}{σ:St}{H:Hp}{s:Shared}{T:String}{x:V}{v:Value}(I:Inv X pins σ H s)(r:RelV x v)(ty:A8 X.K T x H) :
  s.TypeIs v T/\∀ a,v = .ref a->∃ ob,s.heap.get? a=some ob/\ob.dict=none:=by
 cases x with
 | str z =>
  obtain⟨t,rfl⟩:=r;cases (show T = "str" from ty);exact⟨typeIs_str s z t,fun _ e=>nomatch e⟩
 | int i =>
  obtain⟨t,rfl⟩:=r;cases (show T = "int" from ty);exact⟨typeIs_int s i t,fun _ e=>nomatch e⟩
 | ref p =>
  cases r;rcases ty with⟨rfl,xs,hq⟩|⟨rfl,o,hk,hc,hd⟩|⟨rfl,hk⟩|⟨rfl,S,n,hk⟩
  ·obtain⟨its,_,pl,_⟩:=I.list hq;refine⟨pl.isList.typeIs,fun a e=>?_⟩;cases e;obtain⟨o,n,e,c,hd,_⟩:=pl;exact⟨o,e,hd⟩
  ·refine⟨⟨o,I.kIn p o hk,hc⟩,fun a e=>?_⟩;cases e;exact⟨o,I.kIn _ o hk,hd⟩
  ·have z:∃ o,s.heap.get? p=some o/\o.ExactDict:=by
    rcases hk with⟨kvs,hk⟩|⟨kvs,hk⟩
    ·obtain⟨_,_,_,_,o,_,_,e,ex,_⟩:=I.hok p _ hk;exact⟨o,e,ex⟩
    ·obtain⟨_,_,_,_,o,_,_,e,ex,_⟩:=I.hok p _ hk;exact⟨o,e,ex⟩
   obtain⟨o,e,ex⟩:=z;refine⟨⟨o,e,ex.1⟩,fun a e2=>?_⟩;cases e2;exact⟨o,e,ex.2.1⟩
  ·obtain⟨o,_,_,_,e,ex,_⟩:=I.hok p _ hk;refine⟨⟨o,e,ex.1⟩,fun a e2=>?_⟩;cases e2;exact⟨o,e,ex.2.1⟩
 | _=>exact False.elim ty
def Bn(K:Frag)(T:String)(r:V->List V->Hp->VK->Prop)(to:TE):TE:=fun σ H Q=>to σ H fun x H1=>A8 K T x H1/\r x [] H1 Q
def CL(K:Frag)(T:String)(r:V->List V->Hp->VK->Prop)(to:TE)(t:TA):TE:=fun σ H Q=>to σ H fun x H1=>A8 K T x H1/\t σ H1 fun xs H2=>r x xs H2 Q
variable{o e:Expr}{es:List Expr}{to:TE}{t:TA}{name:Str}{apos cpos:Pos}{T id:String}{r:V->List V->Hp->VK->Prop}
theorem qN(pa:PlainAttrs T)(slot:Slot T name id)(hty:typeOf (.builtin id)=pure (.type "method_descriptor"))(hm:zJ X id r)(ho:PE X o to)
  (hbase:attributeBase o name X.env (eval o X.env)=eval o X.env:=by rfl) (hline:(apos.endLine == cpos.line)=true:=by rfl):PE X (.Call (.Attribute o name apos) [] [] cpos) (Bn X.K T r to):=by
 intro pins s σ H Q I h;refine wpAny_Call_method0_late hbase hline (jv (ho pins s σ H _ I h) fun v s1 ⟨x,H1,I1,r1,ty,q1⟩=>?_);obtain⟨h1,h2⟩:=uc I1 r1 ty;exact⟨T,id,pa,slot,hty,h1,h2,Calls.callWith_builtin rfl (PySem.evalArgs_none (hm pins s1 σ H1 x [] v [] Q I1 r1 .nil q1))⟩
theorem pS(pa:PlainAttrs T)(slot:Slot T name id)(hty:typeOf (.builtin id)=pure (.type "method_descriptor"))(hm:zJ X id r)(ho:PE X o to)(ha:PA X (e::es) t)
  (hbase:attributeBase o name X.env (eval o X.env)=eval o X.env:=by rfl)
  (hfew:((backTo cpos (starEach (e::es) X.env)).all (fun x => !x.1) && (backToKw cpos (keywordEach [] X.env)).all (fun x=>x.1.isSome)
   && decide ((e::es).length+([]:List Keyword).length+(if ([]:List Keyword).isEmpty then 0 else 1)<30))=true:=by rfl)
  (hline:(apos.endLine == cpos.line)=true:=by rfl) (hs:starEach (e::es) X.env=(false,eval e X.env)::starEach es X.env:=by rfl) (hplain:(backTo cpos (starEach es X.env)).any (·.1)=false:=by rfl) :
  PE X (.Call (.Attribute o name apos) (e::es) [] cpos) (CL X.K T r to t):=by
 intro pins s σ H Q I h;refine wpAny_Call_method_late hbase hfew hline rfl (jv (ho pins s σ H _ I h) fun v s1 ⟨x,H1,I1,r1,ty,q1⟩=>?_);obtain⟨h1,h2⟩:=uc I1 r1 ty;refine⟨T,id,pa,slot,hty,h1,h2,?_⟩;have hA:=ha cpos pins s1 σ H1 _ I1 q1;rw [hs] at hA ⊢;refine Calls.callWith_builtin (by show (false || (backTo cpos (starEach es X.env)).any (·.1))=false;rw [hplain] <;> rfl) (Calls.evalArgs_plain ?_);exact jv hA fun us s2 ⟨vs,H2,I2,r2,q2⟩=>hm pins s2 σ H2 x vs v us Q I2 r1 r2 q2
end
end L2
namespace L2
open PySem PySem.Spec PyProof.Rows
def B9(X:Cx)(id:String)(r:V->List V->Hp->VK->Prop):Prop :=
 ∀(pins:List (Addr×Obj)) (s:Shared) (σ:St) (H:Hp) (x:V) (xs:List V) (v:Value) (us:List Value) (Q:VK),Inv X pins σ H s->RelV x v->Vals xs us->r x xs H Q ->
  wpAny (model X.prog X.w) X.A (call (.builtin id) (v::us)) (EP X pins σ Q) X.xe s
theorem Vals.one:∀{x:V} {us:List Value},Vals [x] us->∃ u,us=[u]/\RelV x u
 | _,_,.cons r .nil=>⟨_,rfl,r⟩
theorem Vals.two:∀{x y:V} {us:List Value},Vals [x,y] us->∃ u v,us=[u,v]/\RelV x u/\RelV y v
 | _,_,_,.cons r (.cons q .nil)=>⟨_,_,rfl,r,q⟩
theorem Vals.zero:∀{us:List Value},Vals [] us->us=[]
 | _,.nil=>rfl
theorem Vals.dropLast{xs:List V}{us:List Value}(h:Vals xs us):Vals xs.dropLast us.dropLast:=by
 induction h with
 | nil=>exact .nil
 | cons r t ih =>
  cases t with
  | nil=>exact .nil
  | cons q t'=>exact .cons r ih
theorem Vals.reverse{xs:List V}{us:List Value}(h:Vals xs us):Vals xs.reverse us.reverse:=by
 induction h with
 | nil=>exact .nil
 | cons r t ih=>rw [bZ,bZ];exact Vals.append ih (.cons r .nil)
theorem Vals.rep{xs:List V}{us:List Value}(h:Vals xs us):∀ k:Nat,Vals (List.replicate k xs).flatten (List.replicate k us).flatten
 | 0=>.nil
 | k+1=>by
  rw [aW,aW,bj,bj];exact Vals.append h (Vals.rep h k)
theorem ra{α:Type}(l:List α):l.eraseIdx (l.length-1)=l.dropLast:=by
 induction l with
 | nil=>rfl
 | cons a r ih =>
  cases r with
  | nil=>rfl
  | cons b r =>
   have e:(a::b::r).length-1=((b::r).length-1)+1:=by
    have h1:(a::b::r).length=r.length+2:=rfl;have h2:(b::r).length=r.length+1:=rfl
    (first|lia|omega)
   rw [e,List.eraseIdx_cons_succ,ih];all_goals rfl
theorem mo(its:List Value):∀(k:Nat) (acc:List Value),
  List.foldl (fun x1 x2=>x1++x2) acc.toArray (List.replicate k its.toArray)=(acc++(List.replicate k its).flatten).toArray
 | 0,acc=>by simp
 | k+1,acc=>by
  have e:acc.toArray++its.toArray=(acc++its).toArray:=by simp
  have e2:(acc++its)++(List.replicate k its).flatten=acc++(List.replicate (k+1) its).flatten:=by
   rw [aW,bj,dJ]
  rw [← e2,← mo its k (acc++its),← e,aW,List.foldl_cons]
section
variable{X:Cx}{pins:List (Addr×Obj)}{σ:St}{H:Hp}{s:Shared}{l b:Addr}{xs ys zs:List V}
theorem Inv.lset{its its':List Value}{n:Nat}{f:Array Value->Array Value}{t':Nat}(I:Inv X pins σ H s)(hH:H l=some (.lst xs))
  (e:s.heap.get? l=some { cls:=.type "list",data:=.seq its.toArray n }) (hf:f its.toArray=its'.toArray) (hv:Vals ys its') (hz:ys.length<=sizeLine) :
  Inv X pins σ (jr H l (.lst ys)) { s with heap:=s.heap.update l (Obj.mapSeq f),toks:=t' }:=by
 have q:=PySem.IsL.update e f;rw [hf] at q;refine I.write (x:=l) (e:=l) (by rw [hH];exact trivial) (.inl rfl) (fun b' u hb hu=>(Heap.get?_update_other s.heap (Obj.mapSeq f) (Ne.symm hb)).trans hu) ⟨_,q⟩ ?_;exact⟨hz,its',_,hv,q⟩
theorem Inv.lnew{its:List Value}{t':Nat}(I:Inv X pins σ H s)(hv:Vals ys its)(hz:ys.length<=sizeLine) :
  Inv X pins σ (jr H s.heap.objs.size (.lst ys)) { s with heap:=s.heap.push { cls:=.type "list",data:=.seq its.toArray },toks:=t' } :=
 I.laid (fun _ _ q=>Heap.get?_push_of_some _ q) (aj _) ⟨hz,its,0,hv,Heap.get?_push_size _ rfl⟩
theorem Inv.fresh(I:Inv X pins σ H s):H s.heap.objs.size=none:=I.hok.fresh (aj _)
theorem Inv.lstM(I:Inv X pins σ H s)(hH:H l=some (.lst xs)):xs.length<=sizeLine/\∃(its:List Value) (n:Nat),Vals xs its/\xs.length=its.length/\s.heap.get? l=some { cls:=.type "list",data:=.seq its.toArray n }:=by
 obtain⟨z,its,n,r,e⟩:=I.hok l _ hH;exact⟨z,its,n,r,r.length,e⟩
theorem uV{n:Nat}(h:n<=sizeLine):Builtin.List.listTooLong n=false:=by
 unfold Builtin.List.listTooLong;exact decide_eq_false (by first|lia|omega)
end
section
variable{X:Cx}
def v5:V->List V->Hp->VK->Prop:=fun x vs H Q=>∃ l xs y,x = .ref l/\vs=[y]/\H l=some (.lst xs)/\xs.length<sizeLine/\Q .non (jr H l (.lst (xs++[y])))
theorem tz:B9 X "list.append" v5:=by
 intro pins s σ H x vs v us Q I rx rv h;obtain⟨l,xs,y,rfl,rfl,hH,hz,q⟩:=h;cases rx;obtain⟨u,rfl,ru⟩:=rv.one;obtain⟨z,its,n,r,hl,e⟩:=I.lstM hH;refine call_meets F.slot_list_append ⟨_,e,rfl⟩ F.entry_list_append (F.args_list_append_2 _ _) (PySem.list_append l its.toArray n u (by rw [af];(first|lia|omega))) ⟨e,?_⟩;refine⟨.non,_,I.lset (its':=its++[u]) hH e (by simp) (r.append (.cons ru .nil)) ?_,rfl,q⟩;rw [aF,bK]
 (first|lia|omega)
def By:V->List V->Hp->VK->Prop:=fun x vs H Q=>∃ l xs y,x = .ref l/\vs=[]/\H l=some (.lst xs)/\xs[xs.length-1]? = some y/\Q y (jr H l (.lst xs.dropLast))
theorem u4:B9 X "list.pop" By:=by
 intro pins s σ H x vs v us Q I rx rv h;obtain⟨l,xs,y,rfl,rfl,hH,hy,q⟩:=h;cases rx;have hus:=rv.zero;subst hus;obtain⟨z,its,n,r,hl,e⟩:=I.lstM hH;obtain⟨u,hu,ru⟩:=r.get hy;have hy':its.toArray[its.toArray.size-1]? = some u:=by
  show its.toArray[its.length-1]? = some u;rw [← cr,← hl];exact hu
 refine call_meets F.slot_list_pop ⟨_,e,rfl⟩ F.entry_list_pop (F.args_list_pop_1 _) (MeetsSeq.list_pop_last l its.toArray n u hy' (by rw [af];(first|lia|omega))) ⟨e,?_⟩;refine⟨y,_,I.lset (its':=its.dropLast) hH e ?_ r.dropLast ?_,ru,q⟩
 ·show its.toArray.eraseIdxIfInBounds (its.toArray.size-1)=its.dropLast.toArray;rw [af,List.eraseIdxIfInBounds_toArray,ra]
 ·rw [List.length_dropLast]
  (first|lia|omega)
def BC:R2:=fun x y H Q=>∃ l b xs zs,x = .ref l/\y = .ref b/\H l=some (.lst xs)/\H b=some (.lst zs)/\xs.length+zs.length<=sizeLine/\∀ p,H p=none->Q (.ref p) (jr H p (.lst (xs++zs)))
theorem yN:OpR X (binaryOp .Add) BC:=by
 intro pins s σ H x y v u Q I rx ry h;obtain⟨l,b,xs,zs,rfl,rfl,hH,hB,hz,q⟩:=h;cases rx;cases ry;obtain⟨z,its,n,r,hl,e⟩:=I.lstM hH;obtain⟨z2,its2,n2,r2,hl2,e2⟩:=I.lstM hB;refine PySem.P.add_list e e2 ?_ (by rw [af,af];(first|lia|omega));have ea:its.toArray++its2.toArray=(its++its2).toArray:=by simp
 rw [ea];exact⟨.ref _,_,I.lnew (t':=s.toks) (r.append r2) (by rw [aF];(first|lia|omega)),rfl,q _ I.fresh⟩
def Bx:R2:=fun x y H Q=>∃ l k xs,x = .ref l/\y = .int k/\H l=some (.lst xs) /\ -(2^63)<=k/\k<2^63/\xs.length*k.toNat<=sizeLine /\
 ∀ p,H p=none->Q (.ref p) (jr H p (.lst (List.replicate k.toNat xs).flatten))
theorem oW{α:Type}(xs:List α)(k:Nat):(List.replicate k xs).flatten.length=k*xs.length:=by
 induction k with
 | zero=>simp
 | succ k ih=>rw [aW,bj,aF,ih,Nat.succ_mul,Nat.add_comm]
theorem uP:OpR X (binaryOp .Mult) Bx:=by
 intro pins s σ H x y v u Q I rx ry h;obtain⟨l,k,xs,rfl,rfl,hH,h1,h2,hz,q⟩:=h;cases rx;obtain⟨t,rfl⟩:=ry;obtain⟨z,its,n,r,hl,e⟩:=I.lstM hH;have hlen:its.toArray.size*k.toNat<=sizeLine:=by rw [af,← hl];exact hz
 have hcap:¬ its.toArray.size*k.toNat > (2^63-1) / 8:=by
  have:(sizeLine:Nat)<=(2^63-1) / 8:=by decide
  (first|lia|omega)
 have hfit:¬ (!Builtin.List.listFitsIndex k)=true:=by
  rw [fitsIndex_both h1 h2];exact ao
 have hlong:¬ Builtin.List.listTooLong (its.toArray.size*k.toNat)=true:=by
  rw [uV hlen];exact ao
 have hnew:List.foldl (fun x1 x2=>x1++x2) #[] (List.replicate (if its.toArray.isEmpty=true then 0 else k.toNat) its.toArray)=(List.replicate k.toNat its).flatten.toArray:=by
  have f0:∀ m:Nat,List.foldl (fun x1 x2=>x1++x2) #[] (List.replicate m its.toArray)=(List.replicate m its).flatten.toArray:=fun m=>by
   have:=mo its m [];rw [List.nil_append] at this;exact this
  rw [f0];cases its with
  | nil=>simp
  | cons a r'=>rw [if_neg (by simp)]
 refine wpAny_binaryOp_repeat_ref (T := "list") (U := "int") (by decide) ⟨_,e,rfl⟩ (fun s'=>typeIs_int s' k t) noFill_list_mul F.fills_int_mul F.slot_int_rmul repeat_list F.slot_int_index.lookup
  (call_meets F.slot_int_rmul (typeIs_int s k t) F.entry_int_rmul (F.args_int_rmul_2 _ _) (int___rmul___int_list k t l its.toArray n)
   ⟨e,rfl,⟨_,e,rfl⟩,call_meets F.slot_list_mul ⟨_,e,rfl⟩ F.entry_list_mul (F.args_list_mul_2 _ _) (AutoListH.list___mul___list_int_3 l its.toArray n k t hfit hcap hlong) ⟨e,?_⟩⟩)
 rw [hnew];exact⟨.ref _,_,I.lnew (t':=s.toks) (r.rep k.toNat) (by rw [oW,cF];exact hz),rfl,q _ I.fresh⟩
end
section
variable{prog:Program}{w:World}{A:Around}{E:Value->Shared->Prop}{s:Shared}
set_option maxRecDepth 100000 in
end
end L2
namespace Att
open PySem PySem.W PySem.Calls PyProof.Rows
theorem mK{P:Params}{h:Heap}:∀(ns:List Int) (vs:List Value),WellAll P h vs (ns.map WData.int)->IntsAre vs ns:=by
 intro ns;induction ns with
 | nil =>
  intro vs w;rw [List.map_nil] at w;cases w;exact .nil
 | cons n ns ih =>
  intro vs w;rw [aY] at w;cases w with
  | cons a b =>
   cases a;exact .cons _ _ (ih _ b)
theorem sM{l:OpenLaw}{n:Nat}(hn:l.most=some n){P:Params}{h:Heap}{args:List WData}{vals:List Value}
  (hpre:l.row.toRowW.claim.pre args=true) (hwl:WellAll P h vals args) :
  ∃ a vs ns,vals=[Value.ref a]/\args=[WData.list (ns.map WData.int)]/\h.get? a=some { cls:=.type "list",data:=.seq vs.toArray }/\IntsAre vs ns/\ns.length<=n:=by
 have hsh:WShape.hasAll [] args [.list .int]=true:=(pre_splitW hpre).1;have hc:l.pre.holds [] { args:=args }=true:=(pre_splitW hpre).2;obtain⟨d,r,rfl,h1,h2⟩:=hasAllW_cons hsh;obtain rfl:=hasAllW_nil h2;obtain⟨xs,rfl,h3⟩:=hasW_list h1;obtain⟨ns,rfl⟩:=items_int h3;have hlen:ns.length<=n:=by
  unfold OpenLaw.pre at hc;have h4:(WTm.not (.lt (.lit (.int (n:Int))) (.len (.arg 0)))).holds [] { args:=[.list (ns.map .int)] }=true:=by
   have h4:=(holds_andW hc).1;rw [hn] at h4;exact h4
  have h5:=condW_of h4 (w_not (w_lt w_lit (w_len_list (w_arg rfl))));rw [aH] at h5;refine Nat.le_of_not_lt fun q=>?_;have q':(n:Int)<((ns.length:Nat):Int):=by first|lia|omega
  first
   | (rw [decide_eq_true q'] at h5;exact absurd h5 (by decide))
   | (simp at h5;(first|lia|omega))
 cases hwl with
 | cons w1 w2 =>
  cases w2;cases w1 with
  | list ho hall=>exact⟨_,_,ns,rfl,rfl,ho,mK ns _ hall,hlen⟩
theorem sS(l:OpenLaw)(args:List WData):l.row.toRowW.claim.post args (.bool true) args=true :=
 postW_of (r:=l.row.toRowW) (X:=(true == true))
  (show WShape.has [] (.bool true) .bool=true by first|rfl|decide|simp [WShape.has,WShape.arms,WShape.armsAll])
  (show (WTm.eq .res (.lit (.bool true))).value [] { args:=args,res:=some (.bool true),after:=args }=some (.bool (true == true)) from w_eq_bool (w_res rfl) w_lit) rfl
theorem qt{l:OpenLaw}{n:Nat}{q:Program}{loose:List Str}{XP:(Str->Option Value)->Heap->Prop}{YP:World->Heap->Prop}{d:DefRec}
  (hn:l.most=some n) (hdf:d.params.defaults=[])
  (call:∀(w:World) (s₀ s₁:Shared) (mg mb:Str->Option Value) (fa:Addr) (o:Obj) (pm cd doc:Value) (a:Addr) (vs:List Value) (ns:List Int),
   Ground q loose [] XP w s₀ mg mb s₁.heap->YP w s₁.heap ->
   s₁.heap.get? fa=some o->o.data = .func (docDef d.name d.params d.body d.scope pm cd doc)->s₁.heap.CodeRec cd d.name->mg d.name=some (.ref fa) ->
   s₁.heap.get? a=some { cls:=.type "list",data:=.seq vs.toArray }->IntsAre vs ns->ns.length<=n->s₁.gens = #[] ->
   codeAny (model l.prog w) callerA (.call (.ref fa) ⟨[.ref a],[]⟩) (fun r s'=>r = .ok (.ret (.bool true))/\OldK s₁.heap s'.heap/\s'.os=s₁.os/\AllBare s'.gens) s₁) :
  WalkO q loose XP YP l.row.toRowW d [] (fun f vs=>PySem.call f vs):=by
 intro w s₀ s₁ mg mb G Y fa o pm cd doc dV kV ho hd hcd hD hmg hg args vals as hpre hlay hrd hwl hlo;obtain rfl:dV = .none:=Dflts.none hD hdf;obtain rfl:kV = .none:=Dflts.noKw hD;obtain⟨a,vs,ns,rfl,rfl,hobj,hints,hlen⟩:=sM hn hpre hwl;refine enter_call (codeAny_mono (call w s₀ s₁ mg mb fa o pm cd doc a vs ns G Y ho (fd_plain hd) hcd hmg hobj hints hlen hg) fun r s' hq=>?_);obtain⟨rfl,h2,h3,h4⟩:=hq;exact⟨.inl ⟨.bool true,.bool true,[],rfl,fun _=>rfl,.bool true,sS l _,fun _=>⟨List.Pairwise.nil,fun _ hm=>(nomatch hm)⟩⟩,h2,h3,h4⟩
end Att
namespace L2
open PySem PySem.Spec PyProof.Rows
theorem nP:∀{vs:List Value} {ns:List Int},IntsAre vs ns->Vals (ns.map V.int) vs
 | _,_,.nil=>.nil
 | _,_,.cons n t h=>.cons ⟨t,rfl⟩ (nP h)
def zD(H:Hp):Prop:=∀ b,H b=none\/∃ o xs,H b=some (.frz o (.lst xs))
theorem u8{P:Program}{w:World}{K:Frag}{mg mb:Str->Option Value}{CX:rF}{k:Nat}{fa a:Addr}{fd:FuncData}{x:Str}{sp:Sp}{s₁:Shared}{vs:List Value}{ns:List Int}
  (KX:K.In s₁.heap) (hns:s₁.heap.Ns mainGlobals mg) (hb:s₁.heap.Ns builtinsNs mb) (hbb:∀ x:Str,x ≠ "__name__" -> mb x=bootBuiltins x) (hlim:s₁.heap.NoLimit) (hse:s₁.heap.NoSeer) (htr:P.given.tree=none) (hg:s₁.gens = #[])
  (ha:s₁.heap.get? a=some { cls:=.type "list",data:=.seq vs.toArray }) (hi:IntsAre vs ns) (hl:ns.length<=sizeLine) (hr:Room k callerA)
  (F:∀ base:Heap,K.In base->base.Ns mainGlobals mg->FnOk P w K mg base CX k fa fd [x] sp) (hbind:∀(s:Shared) (u:Value),BindsTo s fd ⟨[u],[]⟩ [(x,u)])
  (hsp:∀ H:Hp,zD H->SqL K H a (ns.map V.int)->sp [.ref a] H (fun v _=>v = .bl true) fun _ _ _=>False)
  (hCX:∀ H e s',CX [] H s₁ (fun _ _ _=>False) e s'->False) :
  codeAny (model P w) callerA (.call (.ref fa) ⟨[.ref a],[]⟩) (fun r s'=>r = .ok (.ret (.bool true))/\OldK s₁.heap s'.heap/\s'.os=s₁.os/\AllBare s'.gens) s₁:=by
 have rv:=nP hi;have lenV:=hi.length
 -- from an abstract heap in which nothing but the script may be tracked
 have core:∀ H:Hp,zD H->SqL K H a (ns.map V.int)->HOk P w H s₁.heap->(∀ b,H b≠none->b=a)->(H a≠none->K.lookup a=none) ->
   codeAny (model P w) callerA (.call (.ref fa) ⟨[.ref a],[]⟩) (fun r s'=>r = .ok (.ret (.bool true))/\OldK s₁.heap s'.heap/\s'.os=s₁.os/\AllBare s'.gens) s₁:=by
  intro H hO hS hok hA hK;have base_of:∀{b:Addr} {o:Obj},s₁.heap.get? b=some o->H b=none->(nN s₁.heap H).get? b=some o:=fun e n=>vf e n;have noA:∀{b:Addr} {o:Obj} {es:Array DictEntry} {ep:Nat},s₁.heap.get? b=some o->o.data = .dict es ep->H b=none:=fun {b o es ep} e d=>by
   cases q:H b with
   | none=>rfl
   | some u =>
    have e':b=a:=hA b (by rw [q];simp);subst e';rw [ha] at e;cases e;have d':Data.seq vs.toArray _=Data.dict es ep:=d;cases d'
  have nsK:∀{b:Addr} {m:Str->Option Value},s₁.heap.Ns b m->(nN s₁.heap H).Ns b m:=fun {b m} ⟨o,es,ep,e,d,r⟩=>⟨o,es,ep,base_of e (noA e d),d,r⟩;have hKb:K.In (nN s₁.heap H):=fun b o e=>base_of (KX b o e) (by
   cases q:H b with
   | none=>rfl
   | some u =>
    have e':b=a:=hA b (by rw [q];simp);subst e';rw [hK (by rw [q];simp)] at e;cases e)
  have hM:Mod K mg (nN s₁.heap H):=⟨hKb,nsK hns,⟨mb,nsK hb,hbb⟩,let ⟨mc,h1,h2⟩:=hlim;⟨mc,nsK h1,h2⟩⟩;have hsr:(nN s₁.heap H).NoSeer:=by
   obtain⟨⟨mc,a1,b1⟩,⟨mm,a2,b2⟩,⟨mi,a3,b3⟩,⟨mq,bm,ob,a4,b4,c4,d4,e4⟩⟩:=hse;refine⟨⟨mc,nsK a1,b1⟩,⟨mm,nsK a2,b2⟩,⟨mi,nsK a3,b3⟩,⟨mq,bm,ob,nsK a4,b4,base_of c4 ?_,d4,e4⟩⟩;cases q:H bm with
   | none=>rfl
   | some u =>
    have e':bm=a:=hA bm (by rw [q];simp);subst e';rw [ha] at c4;cases c4;exact absurd (show (Value.type "list")=Value.type "module" from d4) (by decide)
  have e0:Env0 P w K mg (nN s₁.heap H) callerA [] s₁ H:=⟨rfl,hM,fun b o e=>wA e,cm (tM _ _),trivial,fun b hb=>absurd (show b∈([]:List Addr) from hb) (by simp),hok,.of_eq hg,hsr,htr⟩;refine codeAny_mono ((F _ hKb (nsK hns)).run callerA [] s₁ H ⟨[.ref a],[]⟩ [.ref a] [.ref a] _ _ hr e0 (hbind s₁ (.ref a)) (.cons rfl .nil) (hsp H hO hS)) fun r s' h=>?_;cases r with
  | error e=>exact (hCX H e s' h).elim
  | ok fl =>
   cases fl with
   | next=>exact False.elim h
   | brk=>exact False.elim h
   | cont=>exact False.elim h
   | ret u =>
    obtain⟨v,H',os,bare,un,hok',r',q⟩:=h;have q':v = .bl true:=q;subst q';obtain rfl:u=Value.bool true:=r';refine⟨rfl,OldK.of_keep fun b o e=>?_,os,bare⟩;cases q:H b with
    | none=>exact un.keep b o e q (by intro z;exact absurd (show b∈([]:List Addr) from z) (by simp)) (by simp)
    | some u =>
     rcases hO b with z|⟨ob,xs,z⟩
     ·rw [q] at z;cases z
     ·have z2:=un.frzs b ob _ z;obtain⟨e1,_⟩:=hok b _ z;obtain⟨e2,_⟩:=hok' b _ z2;rw [e] at e1;cases e1;exact e2
 cases hk:K.lookup a with
 | some o =>
  -- the script is one of the module's own objects
  have e:=KX a o hk;rw [ha] at e;cases e;refine core (fun _=>none) (fun _=>.inl rfl) (.inr ⟨_,vs.toArray,_,hk,rfl,rfl,rfl,by rw [af,lenV];exact hl,by simpa using rv⟩) (fun b u z=>by have z':(none:Option HO)=some u:=z;cases z') (fun b z=>absurd rfl z) fun z=>absurd rfl z
 | none =>
  refine core (fun b=>if b=a then some (.frz { cls:=.type "list",data:=.seq vs.toArray } (.lst (ns.map V.int))) else none) (fun b=>?_) (.inl (.inr ⟨{ cls:=.type "list",data:=.seq vs.toArray },if_pos rfl⟩)) (fun b u z=>?_) (fun b z=>?_) fun _=>hk
  ·by_cases hb:b=a
   ·exact .inr ⟨_,_,if_pos hb⟩
   ·exact .inl (if_neg hb)
  ·by_cases hb:b=a
   ·have z':=(if_pos hb).symm.trans z;cases z';subst hb;exact⟨ha,by rw [aH];exact hl,vs,_,rv,ha⟩
   ·have z':=(if_neg hb).symm.trans z;cases z'
  ·by_cases hb:b=a
   ·exact hb
   ·exact absurd (if_neg hb) z
end L2
namespace L2
open PySem PySem.Spec PyProof.Rows
theorem vP{l:PySem.W.OpenLaw}{n k:Nat}{q:Program}{loose:List Str}{XP:(Str->Option Value)->Heap->Prop}{YP:World->Heap->Prop}{d:DefRec}{K:Params->Frag}{CX:World->rF}{sp:World->Sp}{x:Str}
  (hn:l.most=some n) (hn2:n<=sizeLine) (hdf:d.params.defaults=[]) (hr:Room k callerA)
  (hY:∀(w:World) (h:Heap),YP w h->(K w.params).In h)
  (F:∀(w:World) (mg:Str->Option Value) (fa:Addr) (h:Heap),(K w.params).In h->h.Ns mainGlobals mg->mg d.name=some (.ref fa) ->
   ∃ fd:FuncData,(∀(s:Shared) (u:Value),BindsTo s fd ⟨[u],[]⟩ [(x,u)]) /\
    ∀ base:Heap,(K w.params).In base->base.Ns mainGlobals mg->FnOk l.prog w (K w.params) mg base (CX w) k fa fd [x] (sp w))
  (hsp:∀(w:World) (H:Hp) (a:Addr) (ns:List Int),ns.length<=n->zD H->SqL (K w.params) H a (ns.map V.int)->sp w [.ref a] H (fun v _=>v = .bl true) fun _ _ _=>False)
  (hCX:∀(w:World) (H:Hp) (s:Shared) (e:Value) (s':Shared),CX w [] H s (fun _ _ _=>False) e s'->False) (hi:importsNone q=true:=by decide +kernel) (ht:l.prog.given.tree=none:=by rfl) :
  PySem.W.WalkO q loose XP YP l.row.toRowW d [] (fun f vs=>PySem.call f vs):=by
 refine Att.qt hn hdf fun w s₀ s₁ mg mb fa o pm cd doc a vs ns G Y ho hd hcd hmg hobj hints hlen hg=>?_;have KX:=hY w _ Y;obtain⟨fd,hb,hF⟩:=F w mg fa _ KX G.T.g hmg;exact u8 KX G.T.g G.T.b G.T.builtins G.T.nolimit (G.T.seer hi) ht hg hobj hints (az hlen hn2) hr hF hb (fun H hO hS=>hsp w H a ns hlen hO hS) fun H e s'=>hCX w H s₁ e s'
end L2
namespace L2
open PySem PySem.Spec PyProof.Rows
def jZ(s:Stmt):Arguments:=match s with
 | .FunctionDef _ a _ _ _ _ _ _ _ _=>a
 | _=>{ posonlyargs:=[],args:=[],vararg:=none,kwonlyargs:=[],kw_defaults:=[],kwarg:=none,defaults:=[] }
def jw(s:Stmt):List Stmt:=match s with
 | .FunctionDef _ _ b _ _ _ _ _ _ _=>b
 | _=>[]
def jf(s:Stmt):Scope:=match s with
 | .FunctionDef _ _ _ _ _ _ sc _ _ _=>sc
 | _=>{ kind:=.function,names:=[],isGenerator:=false,isCoroutine:=false }
abbrev pA:rF:=fun _ _ _ _ _ _=>False
abbrev E0:XK:=fun _ _ _=>False
theorem uH{X:Cx}:kF pA X E0:=fun _ _ _ _ _ _ _ h=>h.elim
structure Fun (K:Frag)(x qual:Str)(st:Stmt)(f:Addr)(fd:FuncData):Prop where
 ex:∃(oc:Value) (od:Option Addr) (kV doc pm:Value) (an:Option Addr) (cdv ct:Value) (osl:Array (Option Value)),
  fd=PySem.W.fnOf x qual (jZ st) (jw st) (jf st) .none kV doc pm an cdv ct/\K.lookup f=some ⟨oc,od,.func fd,osl⟩/\PySem.W.codeIn K cdv qual=true
 kp:PySem.W.keepIn K (.ref f)=true
section
variable{P:Program}{w:World}{K:Frag}{mg:Str->Option Value}{base:Heap}
theorem Fun.ok{x qual:Str}{st:Stmt}{f:Addr}{fd:FuncData}{N ps:List Str}{k:Nat}{sp:Sp}(F:Fun K x qual st f fd)(S:FnScope N ps (jf st))(len:∀ vs H Q E,sp vs H Q E->vs.length=ps.length)
  (hbody:∀(cdv:Value) (A:Around) (outer:List Env) (s:Shared) (H:Hp) (vs:List V) (Q:VK) (E:XK),Room k (A.deeper (envOfC qual (jf st) s.heap.objs.size f cdv))->sp vs H Q E ->
   ∃ t,PSs (lv pA P w K mg base N qual (jf st) f cdv A outer s H E).nox (jw st) t/\t { nx:=fun _ H'=>Q .non H',rt:=Q } (start N vs) H):FnOk P w K mg base pA (k+1) f fd ps sp:=by
 obtain⟨oc,od,kV,doc,pm,an,cdv,ct,osl,rfl,lk,hcd⟩:=F.ex;refine xQ lk hcd S len fun A outer s H vs Q E hr hsp=>?_;obtain⟨t,h,q⟩:=hbody cdv A outer s H vs Q E hr hsp;exact⟨t,h.nox,q⟩
theorem Fun.binds{x qual:Str}{st:Stmt}{f:Addr}{fd:FuncData}{ps:List Str}(F:Fun K x qual st f fd)
  (h:∀(kV doc pm:Value) (an:Option Addr) (cdv ct:Value) (us:List Value),us.length=ps.length->bindArgs (PySem.W.fnOf x qual (jZ st) (jw st) (jf st) .none kV doc pm an cdv ct) ⟨us,[]⟩=pure (ps.zip us)):Binds K fd ps []:=by
 obtain⟨oc,od,kV,doc,pm,an,cdv,ct,osl,rfl,lk,hcd⟩:=F.ex;exact .all (h kV doc pm an cdv ct)
theorem vj{x qual:Str}{st:Stmt}{f:Addr}{oc:Value}{od an:Option Addr}{osl:Array (Option Value)}{kV doc pm cdv ct:Value}(l:K.lookup f=some ⟨oc,od,.func (PySem.W.fnOf x qual (jZ st) (jw st) (jf st) .none kV doc pm an cdv ct),osl⟩)
  (c:PySem.W.codeIn K cdv qual=true) (k:PySem.W.keepIn K (.ref f)=true):Fun K x qual st f (PySem.W.fnOf x qual (jZ st) (jw st) (jf st) .none kV doc pm an cdv ct):=⟨⟨oc,od,kV,doc,pm,an,cdv,ct,osl,rfl,l,c⟩,k⟩
end
section
variable{X:Cx}
theorem pv(i:Nat){x:Str}{pos:Pos}(hN:X.N[i]? = some x:=by rfl)(hv:xn X.env.scope x:=by first|exact Or.inl rfl|exact Or.inr (Or.inl rfl)|exact Or.inr (Or.inr rfl))(hd:(x == ("__debug__" : Str))=false:=by decide)
  (hcd:(x == ("__classdict__" : Str))=false:=by decide):PE X (.Name x pos) (lC i):=lh hN hv hd hcd
end
theorem y2{A B:Prop}(h:B):if false=true then A else B:=by
 rw [if_neg ao];exact h
theorem y1{A B:Prop}(h:A):if true=true then A else B:=by
 rw [if_pos rfl];exact h
theorem wP{c A B:Prop}[Decidable c](h1:c->A)(h2:¬ c->B):if c then A else B:=by
 by_cases h:c
 ·rw [if_pos h];exact h1 h
 ·rw [if_neg h];exact h2 h
theorem xN{c A B:Prop}[Decidable c](hc:c)(h:B):if (!decide c)=true then A else B:=by
 rw [decide_eq_true hc];exact y2 h
def Same(H H':Hp):Prop:=∀ b o,H b=some o->H' b=some o
theorem Same.trans{H H1 H2:Hp}(a:Same H H1)(b:Same H1 H2):Same H H2:=fun c o h=>b c o (a c o h)
theorem Same.seq{K:Frag}{H H':Hp}{a:Addr}{xs:List V}(e:Same H H')(h:SqL K H a xs):SqL K H' a xs:=by
 rcases h with (h|⟨o,h⟩)|h
 ·exact .inl (.inl (e _ _ h))
 ·exact .inl (.inr ⟨o,e _ _ h⟩)
 ·exact .inr h
end L2
namespace L2
open PySem PySem.Spec PyProof.Rows
theorem ju{β:Type}:∀{l:List (Str×β)} {x:Str} {k:β},l.lookup x=some k->(x,k)∈l
 | [],_,_,h=>by simp at h
 | (n,k')::r,x,k,h=>by
  rw [bp] at h;cases e:x == n with
  | true =>
   rw [e] at h;have e':x=n:=eq_of_beq e;have h':some k'=some k:=h;cases h';rw [e'];exact ar
  | false =>
   rw [e] at h;exact aq _ (ju h)
theorem oV{β:Type}:∀{l:List (Str×β)} {x:Str} {k:β},(x,k)∈l->∃ k',l.lookup x=some k'
 | [],_,_,h=>by simp at h
 | (n,k')::r,x,k,h=>by
  rw [bp];cases e:x == n with
  | true=>exact⟨k',rfl⟩
  | false =>
   rcases ai.mp h with q|q
   ·cases q;simp at e
   ·exact oV q
def lz(env:Env)(x:Str)(k:NameKind):NameKind:=if (k == .free && env.scope.kind == .function && env.kindOf x == some .cell) then .cell else k
theorem lM{env:Env}{x:Str}:∀{l:List (Str×NameKind)},
  (l.map fun (n,k)=>if (k == NameKind.free && env.scope.kind == .function && env.kindOf n == some .cell) then (n,NameKind.cell) else (n,k)).lookup x=(l.lookup x).map (lz env x)
 | []=>rfl
 | (n,k)::r=>by
  rw [aY];have ih:=@lM env x r;have e0:(match ((n,k):Str×NameKind) with|(n,k)=>if (k == NameKind.free && env.scope.kind == .function && env.kindOf n == some .cell) then (n,NameKind.cell) else (n,k))=(n,lz env n k):=by
   show (if (k == NameKind.free && env.scope.kind == .function && env.kindOf n == some .cell)=true then (n,NameKind.cell) else (n,k))=(n,lz env n k);unfold lz;split <;> rfl
  rw [e0,bp,bp];cases e:x == n with
  | true =>
   have e':x=n:=eq_of_beq e;subst e';rfl
  | false=>exact ih
def jQ(cells:List (Str×Addr)):List (Str×NameKind)->List (Str×Addr)->List (Str×Addr)
 | [],acc=>acc
 | (n,k)::r,acc=>if k == .free then jQ cells r ((n,(cells.lookup n).getD 0)::acc) else jQ cells r acc
theorem kD{cells:List (Str×Addr)}:∀{l:List (Str×NameKind)} {acc:List (Str×Addr)},(∀ y∈l,y.2 = .free->∃ c,cells.lookup y.1=some c)->(∀ p∈acc,cells.lookup p.1=some p.2) ->
  ∀ p∈jQ cells l acc,cells.lookup p.1=some p.2
 | [],acc,_,ha,p,hp=>ha p hp
 | (n,k)::r,acc,hl,ha,p,hp=>by
  unfold jQ at hp;have hl':∀ y∈r,y.2 = .free->∃ c,cells.lookup y.1=some c:=fun y hy=>hl y (aq _ hy);cases hk:k == NameKind.free with
  | true =>
   rw [hk,if_pos rfl] at hp;refine kD hl' (fun q hq=>?_) p hp;rcases ai.mp hq with e|e
   ·subst e;obtain⟨c,e⟩:=hl (n,k) ar (eq_of_beq hk);show cells.lookup n=some ((cells.lookup n).getD 0);rw [show cells.lookup n=some c from e];rfl
   ·exact ha q e
  | false =>
   rw [hk,if_neg ao] at hp;exact kD hl' ha p hp
theorem nB{cells:List (Str×Addr)}:∀{l:List (Str×NameKind)} {acc:List (Str×Addr)} {p:Str×Addr},p∈acc->p∈jQ cells l acc
 | [],_,_,h=>h
 | (n,k)::r,acc,p,h=>by
  unfold jQ;split
  ·exact nB (aq _ h)
  ·exact nB h
theorem lT{cells:List (Str×Addr)}:∀{l:List (Str×NameKind)} {acc:List (Str×Addr)} {x:Str},(x,NameKind.free)∈l->∃ c,(x,c)∈jQ cells l acc
 | [],_,_,h=>by simp at h
 | (n,k)::r,acc,x,h=>by
  unfold jQ;rcases ai.mp h with e|e
  ·cases e;rw [if_pos (by rfl)];exact⟨_,nB ar⟩
  ·split
   ·exact lT e
   ·exact lT e
theorem lx{env:Env}:∀{l:List (Str×NameKind)} {acc:List (Str×Addr)},(∀ y∈l,y.2 = .free->∃ c,env.cells.lookup y.1=some c) ->
  (forIn l acc (fun (x:Str×NameKind) (r:List (Str×Addr))=>(if (x.2 == NameKind.free)=true then do let c ← cellOf env x.1;pure (ForInStep.yield ((x.1,c)::r)) else pure (ForInStep.yield r):Sem _)))=pure (jQ env.cells l acc)
 | [],_,_=>rfl
 | (n,k)::r,acc,hl=>by
  have hl':∀ y∈r,y.2 = .free->∃ c,env.cells.lookup y.1=some c:=fun y hy=>hl y (aq _ hy);rw [List.forIn_cons];unfold jQ;cases hk:k == NameKind.free with
  | true =>
   obtain⟨c,e⟩:=hl (n,k) ar (eq_of_beq hk);have e':env.cells.lookup n=some c:=e;simp only [hk,if_true];rw [show cellOf env n=pure c by unfold cellOf;rw [e']];simp only [pure_bind];rw [lx hl',e'];rfl
  | false =>
   simp only [hk,bH,if_false,pure_bind];exact lx hl'
theorem mw{cells:List (Str×Addr)}:∀{l:List (Str×NameKind)} {acc:List (Str×Addr)} {p:Str×Addr},p∈jQ cells l acc->p∈acc\/(p.1,NameKind.free)∈l
 | [],_,_,h=>.inl h
 | (n,k)::r,acc,p,h=>by
  unfold jQ at h;split at h
  ·rename_i hk;rcases mw h with z|z
   ·rcases ai.mp z with e|e
    ·subst e;rw [eq_of_beq hk];exact .inr ar
    ·exact .inl e
   ·exact .inr (aq _ z)
  ·exact (mw h).imp id (aq _)
theorem rh:∀{l:List (Str×NameKind)} {n:Nat} {acc:List (Str×Addr)} {p:Str×Addr},p∈cellsFrom n l acc->p∈acc\/(n<=p.2/\(p.1,NameKind.cell)∈l)
 | [],_,_,_,h=>.inl h
 | (x,k)::r,n,acc,p,h=>by
  unfold cellsFrom at h;split at h
  ·rename_i hk;rcases rh h with z|z
   ·rcases ai.mp z with e|e
    ·subst e;rw [eq_of_beq hk];exact .inr ⟨aj _,ar⟩
    ·exact .inl e
   ·exact .inr ⟨bB z.1,aq _ z.2⟩
  ·exact (rh h).imp id fun z=>⟨z.1,aq _ z.2⟩
theorem nE:∀{l:List (Str×NameKind)} {n:Nat} {acc:List (Str×Addr)} {p:Str×Addr},p∈acc->p∈cellsFrom n l acc
 | [],_,_,_,h=>h
 | (x,k)::r,n,acc,p,h=>by
  unfold cellsFrom;split
  ·exact nE (aq _ h)
  ·exact nE h
theorem vz:∀{l:List (Str×NameKind)} {n:Nat} {acc:List (Str×Addr)} {x:Str},(x,NameKind.cell)∈l->∃ c,(x,c)∈cellsFrom n l acc
 | [],_,_,_,h=>by simp at h
 | (y,k)::r,n,acc,x,h=>by
  unfold cellsFrom;rcases ai.mp h with e|e
  ·cases e;rw [if_pos (by rfl)];exact⟨_,nE ar⟩
  ·split <;> exact vz e
theorem rj:∀{l:List (Str×NameKind)} {n:Nat} {acc:List (Str×Addr)},(∀ p∈acc,p.2<n)->(∀ x y c,(x,c)∈acc->(y,c)∈acc->x=y)->∀ x y c,(x,c)∈cellsFrom n l acc->(y,c)∈cellsFrom n l acc->x=y
 | [],_,_,_,h=>h
 | (z,k)::r,n,acc,hl,h=>by
  unfold cellsFrom;split
  ·refine rj (fun p hp=>?_) fun x y c hx hy=>?_
   ·rcases ai.mp hp with e|e
    ·subst e;exact Nat.lt_succ_self _
    ·exact cH (hl p e)
   ·rcases ai.mp hx with e|e <;> rcases ai.mp hy with e'|e'
    ·cases e;cases e';rfl
    ·cases e;exact absurd (hl _ e') (aM _)
    ·cases e';exact absurd (hl _ e) (aM _)
    ·exact h x y c e e'
  ·exact rj hl h
theorem o9:∀{l:List (Str×NameKind)} {h:Heap} {acc:List (Str×Addr)} {p:Str×Addr},p∈cellsFrom h.objs.size l acc->p∈acc\/(pushCells h l).IsCell p.2 none
 | [],_,_,_,q=>.inl q
 | (x,k)::r,h,acc,p,q=>by
  unfold cellsFrom at q;unfold pushCells;split at q
  ·rename_i hk;rw [if_pos hk];rw [← Heap.size_push h { cls:=.type "cell",data:=.cell none }] at q;rcases o9 q with z|z
   ·rcases ai.mp z with e|e
    ·subst e;exact .inr ⟨_,pushCells_keeps _ _ _ _ (Heap.get?_push_size _ rfl),rfl⟩
    ·exact .inl e
   ·exact .inr z
  ·rename_i hk;rw [if_neg hk];exact o9 q
theorem nz{cells:List (Str×Addr)}{names:List (Str×NameKind)}{n:Nat}{x:Str}{c:Addr}(hfr:∀ y∈names,y.2 = .free->∃ c,cells.lookup y.1=some c)(h:(x,c)∈cellsFrom n names (jQ cells names [])) :
  (cells.lookup x=some c/\(x,NameKind.free)∈names)\/(n<=c/\(x,NameKind.cell)∈names):=by
 rcases rh h with z|z
 ·refine .inl ⟨kD hfr (fun _ z=>absurd z ah) (x,c) z,?_⟩;rcases mw z with w|w
  ·exact absurd w ah
  ·exact w
 ·exact .inr z
theorem wE{M:Model}{A:Around}{E:Value->Shared->Prop}{s:Shared}{scope:Scope}{g:Addr}{cl:List (Str×Addr)}{qual:Str}{env:Env}{Q:Env->Shared->Prop}
  (h:Q (newEnv scope s.heap.objs.size g (cellsFrom (s.heap.objs.size+1) scope.names cl) qual none .none (some env) builtinsNs) { s with heap:=pushCells (s.heap.push { cls:=.type "dict",data:=.dict #[] }) scope.names }) :
  wpAny M A (newFunctionEnv scope g cl [] qual none .none (some env)) Q E s:=by
 simp only [newFunctionEnv,Option.isSome_some,if_true];refine wpAny_bind (wpAny_alloc ?_);refine wpAny_bind (wpAny_layCells _ (fun name kind cells=>by cases hkc:kind == NameKind.cell <;> simp [hkc]) _ _ _ _ ?_);rw [show ({ s with heap:=s.heap.push { cls:=.type "dict",data:=.dict #[] } }:Shared).heap.objs.size=s.heap.objs.size+1 from Heap.size_push ..];refine wpAny_bind ?_;rw [List.forIn_nil];exact wpAny_pure (wpAny_pure h)
def mI(hide:List Nat)(σ:St):St:=hide.foldl (fun s i=>s.set i none) σ
theorem hideS_len:∀{hide:List Nat} {σ:St},(mI hide σ).length=σ.length
 | [],_=>rfl
 | i::r,σ=>by
  show (mI r (σ.set i none)).length=_;rw [hideS_len,aO]
theorem n9:∀{hide:List Nat} {σ:St} {i:Nat} {v:V},(mI hide σ)[i]? = some (some v)->i ∉ hide/\σ[i]? = some (some v)
 | [],_,_,_,h=>⟨by simp,h⟩
 | j::r,σ,i,v,h=>by
  obtain⟨h1,h2⟩:=n9 (hide:=r) (σ:=σ.set j none) h;by_cases e:j=i
  ·subst e;by_cases hl:j<σ.length
   ·rw [bu hl] at h2;cases h2
   ·rw [df (by simp;(first|lia|omega))] at h2;cases h2
  ·rw [au e] at h2;exact⟨by simp [h1,Ne.symm e],h2⟩
def kS(X:Cx)(scope:Scope)(s2:Shared)(H2:Hp)(fp:List Addr)(pins:List (Addr×Obj))(C:Addr):Cx where
 prog:=X.prog
 w:=X.w
 K:=X.K
 mg:=X.mg
 base:=X.base
 A:=X.A
 N:=X.N
 s₀:=s2
 H₀:=H2
 env:=compEnvC scope (cellsFrom (C+1) scope.names (jQ X.env.cells scope.names [])) C X.env
 outer:=X.stack
 stack:=X.stack
 ex:=fp
 fn:=fun x=>scope.names.lookup x == some .cell
 calm:=X.calm
 pn:=X.pn++pins
 xe:=fun _ _=>False
structure CompS (N:List Str)(out:Scope)(scope:Scope)(hide:List Nat):Prop where
 kind:scope.kind = .function
 one:∀ y∈scope.names,scope.names.lookup y.1=some y.2
 free:∀ y∈scope.names,y.2 = .free->out.names.lookup y.1=some .cell\/out.names.lookup y.1=some .free
 loc:∀ y∈scope.names,y.2 = .local->scope.names.lookup y.1=some .local
 own:∀(i:Nat),i<N.length->(scope.names.lookup (N.getD i "")=some .local\/scope.names.lookup (N.getD i "")=some .cell)->i∈hide
section
variable{X:Cx}{pins:List (Addr×Obj)}{σ:St}{H:Hp}{s:Shared}
theorem C1{scope:Scope}{hide:List Nat}(S:CompS X.N X.env.scope scope hide){fp:List Addr}{C:Addr}(I:Inv X pins σ H s)(hf:∀ b∈fp,kH X pins H b)(hfo:∀ b∈fp,∃ o,s.heap.get? b=some o)
  (hC:s.heap.objs.size<=C):(kS X scope s H fp pins C).Ok:=by
 have hfr:∀ y∈scope.names,y.2 = .free->∃ c,X.env.cells.lookup y.1=some c:=fun y hy e=>I.ok.has y.1 (S.free y hy e);have old:∀ x c,X.env.cells.lookup x=some c->c<s.heap.objs.size:=fun x c e=>by
  obtain⟨v,o,ho,_⟩:=I.cell x c e;exact Heap.lt_size ho
 have cl:∀ p∈jQ X.env.cells scope.names [],X.env.cells.lookup p.1=some p.2:=kD hfr fun _ z=>absurd z ah;refine⟨I.ok.mod,S.kind,I.ok.glob,I.ok.blt,hC,fun x y c e1 e2=>rj (fun p hp=>cH (ak (old _ _ (cl p hp)) hC)) (fun x y c h1 h2=>I.ok.inj x y c (cl _ h1) (cl _ h2)) x y c (ju e1) (ju e2),fun x hx=>?_,fun x c h e=>?_,I.ok.hd,I.ok.frames,.inl rfl,fun b hb=>⟨?_,fun x c e=>?_⟩,I.bs,
  az I.ok.bsz I.sz,fun b o e hb=>?_,fun b hb z=>?_,I.stack,I.stkFree,I.ok.sr,I.ok.rn⟩
 ·have hx':((scope.names.lookup x).map (lz X.env x)=some .cell)\/((scope.names.lookup x).map (lz X.env x)=some .free):=by
   rw [← lM];exact hx
  cases q:scope.names.lookup x with
  | none=>rw [q] at hx';rcases hx' with z|z <;> cases z
  | some k =>
   have mem:=ju q;have kf:k = .free\/k = .cell:=by
    rw [q] at hx';have hx2:lz X.env x k = .cell\/lz X.env x k = .free:=hx'.imp Option.some.inj Option.some.inj;unfold lz at hx2;by_cases c:(k == NameKind.free && X.env.scope.kind == .function && X.env.kindOf x == some .cell)=true
    ·simp only [ax,beq_iff_eq] at c;exact .inl c.1.1
    ·rw [if_neg c] at hx2;exact hx2.symm
   rcases kf with kf|kf
   ·subst kf;obtain⟨c,hc⟩:=lT (cells:=X.env.cells) (acc:=[]) mem;exact oV (nE hc)
   ·subst kf;obtain⟨c,hc⟩:=vz (n:=C+1) (acc:=jQ X.env.cells scope.names []) mem;exact oV hc
 ·have h:scope.names.lookup x=some .cell:=eq_of_beq h;rcases nz hfr (ju e) with⟨_,z⟩|⟨z,_⟩
  ·rw [S.one _ z] at h;cases h
  ·exact az hC (bB z)
 ·obtain⟨o,e⟩:=hfo b hb;exact aA (ak (Heap.lt_size e) hC)
 ·obtain⟨o,e'⟩:=hfo b hb;rcases nz hfr (ju e) with⟨z,_⟩|⟨z,_⟩
  ·exact (hf b hb).2.2.2.2.1 x c z
  ·exact cj (ak (Heap.lt_size e') (az hC (bB z)))
 ·rcases (hf b hb).2.2.2.1 with z|z
  ·exact I.ok.noex b o e z
  ·exact absurd (ak (Heap.lt_size (I.ok.bs b o e).1) z) (aM _)
 ·rcases ai.mp (I.stkSub b z) with q|q
  ·exact (hf b hb).2.1 q
  ·exact (hf b hb).2.2.1 q
theorem AU(I:Inv X pins σ H s){a:Addr}(h:s.heap.objs.size<=a):a ∉ nq X.stack:=fun z=>by
 rcases ai.mp (I.stkSub a z) with q|q
 ·exact absurd (ak I.lt (by rw [← q];exact h)) (aM _)
 ·exact I.nofs h q
theorem B3{scope:Scope}{hide:List Nat}(S:CompS X.N X.env.scope scope hide){fp:List Addr}{C D:Addr}{h4:Heap}{tk:Nat}{ob:Obj}{m:Str->Option Value}(I:Inv X pins σ H s)(hf:∀ b∈fp,kH X pins H b)(hfo:∀ b∈fp,∃ o,s.heap.get? b=some o)
  (hC:s.heap.objs.size<=C) (hD:s.heap.objs.size<=D) (hDC:D≠C) (k:∀ b u,s.heap.get? b=some u->h4.get? b=some u) (hcl:∀ p∈cellsFrom (C+1) scope.names (jQ X.env.cells scope.names []),p∈jQ X.env.cells scope.names []\/h4.IsCell p.2 none) (hn:h4.Ns C m) (hDo:h4.get? D=some ob) (hob:∀ v,ob.data ≠ .cell v) :
  Inv (kS X scope s H fp pins C) [(D,ob)] (mI hide σ) H { s with heap:=h4,toks:=tk }:=by
 have ok:=C1 S I hf hfo hC;have hfr:∀ y∈scope.names,y.2 = .free->∃ c,X.env.cells.lookup y.1=some c:=fun y hy e=>I.ok.has y.1 (S.free y hy e);have sub:∀ x c,(x,c)∈jQ X.env.cells scope.names []->X.env.cells.lookup x=some c:=fun x c e=>kD hfr (fun _ z=>absurd z ah) (x,c) e;have ck:∀ c v,s.heap.IsCell c v->h4.IsCell c v:=fun c v ⟨o,ho,hd⟩=>⟨o,k c o ho,hd⟩;refine⟨ok,rfl,I.bare,Un.kept k,⟨m,hn,fun i x v e1 e2 e3=>?_⟩,fun x c e=>?_,I.hok.fresh hC,fun x c e=>?_,fun p hp=>?_,I.hok.kept k,hideS_len.trans I.len⟩
 ·obtain⟨n1,n2⟩:=n9 e2;have e3':((scope.names.lookup x).map (lz X.env x)=some .local)\/((scope.names.lookup x).map (lz X.env x)=some .cell)\/((scope.names.lookup x).map (lz X.env x)=some .free):=by
   rw [← lM];exact e3
  cases q:scope.names.lookup x with
  | none=>rw [q] at e3';rcases e3' with z|z|z <;> cases z
  | some kd =>
   rw [q] at e3';have e4:lz X.env x kd = .local\/lz X.env x kd = .cell\/lz X.env x kd = .free:=e3'.imp Option.some.inj fun z=>z.imp Option.some.inj Option.some.inj;have mem:=ju q;by_cases kl:kd = .local\/kd = .cell
   ·have hi:X.N[i]? = some x:=e1;obtain⟨hlt,hge⟩:=av.mp hi;refine absurd (S.own i hlt ?_) n1;rw [bT,hi];exact kl.imp (fun z=>by rw [← z];exact q) fun z=>by rw [← z];exact q
   ·have kf:kd = .free:=by
     unfold lz at e4;by_cases c:(kd == NameKind.free && X.env.scope.kind == .function && X.env.kindOf x == some .cell)=true
     ·simp only [ax,beq_iff_eq] at c;exact c.1.1
     ·rw [if_neg c] at e4;rcases e4 with z|z|z
      ·exact absurd (.inl z) kl
      ·exact absurd (.inr z) kl
      ·exact z
    subst kf;have kx:=S.free _ mem rfl;obtain⟨m0,_,hl⟩:=I.loc;obtain⟨u,r,l⟩:=hl i x v e1 n2 (.inr kx);refine⟨u,r,?_⟩;rcases l with⟨z,_⟩|⟨_,c,e,z⟩
    ·have z':X.env.scope.names.lookup x=some .local:=z;rw [z'] at kx;rcases kx with w|w <;> cases w
    ·obtain⟨c',hc'⟩:=lT (cells:=X.env.cells) (acc:=[]) mem;obtain⟨c2,hc2⟩:=oV (nE (n:=C+1) (l:=scope.names) hc');have ec:c2=c:=by
      rcases nz hfr (ju hc2) with⟨w,_⟩|⟨_,w⟩
      ·exact Option.some.inj (w.symm.trans e)
      ·have w1:=S.one _ w;rw [q] at w1;cases w1
     subst ec;refine .inr ⟨?_,c2,hc2,ck c2 _ z⟩;have e5:((relabel scope X.env).names.lookup x)=some (lz X.env x .free):=by
      show (List.map _ scope.names).lookup x=_;rw [lM,q];rfl
     rcases e4 with w|w|w
     ·unfold lz at w;split at w <;> cases w
     ·exact .inl (e5.trans (by rw [w]))
     ·exact .inr (e5.trans (by rw [w]))
 ·rcases hcl _ (ju e) with w|w
  ·obtain⟨v,z⟩:=I.cell x c (sub x c w);exact⟨v,ck c v z⟩
  ·exact⟨_,w⟩
 ·rcases nz hfr (ju e) with⟨w,_⟩|⟨w,_⟩
  ·exact I.freeC x c w
  ·exact I.hok.fresh (az hC (bB w))
 ·rcases bw.mp hp with z|z
  ·obtain⟨e,n,ne,nf,d⟩:=I.pin p z;refine⟨k _ _ e,n,aA (ak (Heap.lt_size e) hC),fun y=>?_,d⟩;rcases ai.mp (I.stkSub _ y) with q|q
   ·exact ne q
   ·exact nf q
  ·have e:p=(D,ob):=by simpa using z
   subst e;exact⟨hDo,I.hok.fresh hD,hDC,AU I hD,hob⟩
theorem B2{scope:Scope}{fp:List Addr}{C D:Addr}{n:Nat}{its:List Value}{ys:List V}{pins':List (Addr×Obj)}{τ:St}{H':Hp}{s':Shared}(I:Inv X pins σ H s)(hf:∀ b∈fp,kH X pins H b)
  (hD:s.heap.objs.size<=D) (J:Inv (kS X scope s H fp pins C) pins' τ H' s') (hp:(D,({ cls:=.type "list",data:=.seq its.toArray n }:Obj))∈pins') (hv:Vals ys its) (hz:ys.length<=sizeLine) :
  Inv X pins σ (jr H' D (.lst ys)) s':=by
 obtain⟨eD,nD,_⟩:=J.pin _ (aC _ hp);have u:Un (nq X.stack) fp H H' s.heap s'.heap:=J.base;have ne:∀ b o,s.heap.get? b=some o->b≠D:=fun b o e=>aA (ak (Heap.lt_size e) hD);have u':Un (nq X.stack) fp H (jr H' D (.lst ys)) s.heap s'.heap:=by
  refine⟨u.keep,u.slot,fun b o e q hx=>?_,u.there,fun b xs e=>?_,fun b o v e=>?_,fun b ps e=>?_⟩
  ·rw [jh (ne b o e)];exact u.free b o e q hx
  ·have q:=u.tups b xs e;rw [jh (jo q nD)];exact q
  ·have q:=u.frzs b o v e;rw [jh (jo q nD)];exact q
  ·obtain⟨more,q⟩:=u.tbls b ps e;refine⟨more,?_⟩;rw [jh (jo q nD)];exact q
 have hok:HOk X.prog X.w (jr H' D (.lst ys)) s'.heap:=fun b o e=>by
  by_cases hb:b=D
  ·subst hb;rw [ji] at e;cases e;exact⟨hz,its,n,hv,eD⟩
  ·rw [jh hb] at e;exact (J.hok b o e).stay (fun _ _ _ q=>q) (fun c q=>by rw [jh (jo q nD)];exact q) fun c xs q=>by rw [jh (jo q nD)];exact q
 refine I.call' (show s'.os=s.os from J.os) u' hok J.bare fun b hb=>?_;obtain⟨f0,f1,f2,f3,f4,f5⟩:=hf b hb;exact⟨f3,f1,f4,f5⟩
end
abbrev ni(its:List Value)(n:Nat):Obj:={ cls:=.type "list",data:=.seq its.toArray n }
def PTs(X:Cx)(ifs:List Expr)(t:TT):Prop :=
 ∀(pins:List (Addr×Obj)) (s:Shared) (σ:St) (H:Hp) (Q:Bool->Hp->Prop),Inv X pins σ H s->t σ H Q ->
  wpAny (model X.prog X.w) X.A (forIn ifs true fun c r=>if r=true then do let ok ← isTrue c X.env (eval c X.env);pure (ForInStep.yield ok) else pure (ForInStep.yield r)) (TP X pins σ Q) X.xe s
def zN:TT:=fun _ H Q=>Q true H
theorem pts_nil{X:Cx}:PTs X [] zN:=fun _ _ _ H _ I h=>wpAny_tests_nil ⟨H,I,h⟩
theorem v6{X:Cx}{c:Expr}{t:TT}(hc:PT X c t):PTs X [c] t:=fun pins s σ H Q I h=>wpAny_tests_one (hc pins s σ H Q I h)
theorem AL{Y:Cx}{tg iter elt:Expr}{ifs:List Expr}{scope:Scope}{pos:Pos}{g:TG}{te:TE}{tt:TT}{J:It}{fp:List Addr}{it D:Addr}{tn:Nat->Heap->Prop}{R:Result->Shared->Prop}
  {W:Nat->Nat->St->List V->Hp->Prop} {Z:List V->Hp->Prop} {s:Shared} {σ:St} {H:Hp} {m n0:Nat}
  (T:Turn Y.prog Y.w Y.K tg J fp it tn) (hc:Y.calm=true) (hg:PG Y tg g) (ht:PTs Y ifs tt) (he:PE Y elt te) (hx:∀ e s,Y.xe e s->False)
  (stat:∀ ob H',(∀ b∈fp,H' b=none)->∀ b∈fp,kH Y [(D,ob)] H' b) (hDs:Y.s₀.heap.objs.size<=D) (hDc:∀ x c,Y.env.cells.lookup x=some c->c≠D) (hDp:∀ p∈Y.pn,p.1≠D)
  (turn:∀ k m τ ys H,W k m τ ys H->(J.stop k H/\Z ys H)\/(J.go k H/\ys.length<sizeLine/\∀ x H',J.yld k H x H'->g x τ H' fun τ2 H2=>tt τ2 H2 fun b H3 =>
   if b=true then te τ2 H3 fun v H4=>∃ m',m'<m/\W (k+1) m' τ2 (ys++[v]) H4 else ∃ m',m'<m/\W (k+1) m' τ2 ys H3))
  (out:∀(τ:St) (H':Hp) (s':Shared) (ys:List V) (its:List Value) (n:Nat),Inv Y [(D,ni its n)] τ H' s'->Vals ys its->ys.length<=sizeLine->Z ys H'->R (.ok .next) s')
  (I:Inv Y [(D,ni [] n0)] σ H s) (st:tn 0 s.heap) (fr:∀ b∈fp,H b=none) (w0:W 0 m σ [] H) :
  codeAny (model Y.prog Y.w) Y.A (.compLoop (.ListComp elt [⟨tg,iter,ifs,0⟩] scope pos) 0 (.ref it) (.ref D) Y.env) R s:=by
 refine codeAny_loop rfl (fun m s'=>∃ k τ H' ys its n,Inv Y [(D,ni its n)] τ H' s'/\tn k s'.heap/\(∀ b∈fp,H' b=none)/\Vals ys its/\ys.length<=sizeLine/\W k m τ ys H') (fun m1 s1 h1=>?_) m ⟨0,σ,H,[],[],n0,I,st,fr,.nil,bq _,w0⟩;obtain⟨k,τ,H1,ys,its,n,I1,st1,fr1,rv,hz,w1⟩:=h1;have no:∀{E:Value->Shared->Prop} {α:Type} {c:Sem α} {Q:α->Shared->Prop} {s:Shared},wpAny (model Y.prog Y.w) Y.A c Q Y.xe s->wpAny (model Y.prog Y.w) Y.A c Q E s:=fun {E α c Q s} h=>wpAny_mono h (fun _ _ q=>q) fun e s' q=>(hx e s' q).elim;show wpAny _ Y.A ((compTurn (.ListComp elt [⟨tg,iter,ifs,0⟩] scope pos) 0 (.ref it) (.ref D) Y.env).onRaise _) _ _ s1;refine wpAny_noted ?_;rw [compTurn_list];refine wpAny_bind (wpAny_standAt (wpAny_bind ?_));rcases turn k m1 τ ys H1 w1 with⟨stop,z⟩|⟨go,hlt,step⟩
 ·refine jv (T.done Y rfl rfl rfl hc k _ s1 τ H1 _ I1 (stat _ _ fr1) st1 stop) fun r s2 ⟨hr,I2⟩=>?_;subst hr;exact wpAny_pure (out τ H1 s2 ys its n I2 rv hz z)
 ·refine jv (T.item Y rfl rfl rfl hc k _ s1 τ H1 _ I1 (stat _ _ fr1) st1 go) fun r s2 ⟨u,hr,h2⟩=>?_;subst hr;refine wpAny_bind (jv h2 fun _ s3 ⟨x,H3,I3,r3,y3,st3,fr3⟩=>?_);have I3':=I3.pinned (stat _ _ fr3) (T.obj _ _ st3);refine wpAny_bind (no (jv (hg _ s3 τ H3 x u _ I3' r3 (step x H3 y3)) fun _ s4 ⟨τ4,H4,I4,q4⟩=>?_));refine wpAny_bind (no (jv (ht _ s4 τ4 H4 _ I4 q4) fun ok s5 ⟨H5,I5,q5⟩=>?_));have frs5:∀{H':Hp} {s':Shared} {τ':St},Inv Y ([(D,ni its n)]++nc fp s3.heap) τ' H' s'->tn (k+1) s'.heap/\∀ b∈fp,H' b=none:=fun {H' s' τ'} I'=>by
   refine⟨T.keep _ _ _ st3 fun b hb o e=>(I'.pin (b,o) (aC _ (aC _ (kg hb e)))).1,fun b hb=>?_⟩;obtain⟨o,e,d⟩:=T.obj _ _ st3 b hb;exact (I'.pin (b,o) (aC _ (aC _ (kg hb e)))).2.1
  cases ok with
  | false =>
   have q5':∃ m',m'<m1/\W (k+1) m' τ4 ys H5:=q5;obtain⟨m',hm,w5⟩:=q5';obtain⟨a1,a2⟩:=frs5 I5;exact wpAny_pure ⟨rfl,m',hm,k+1,τ4,H5,ys,its,n,I5.unpinned,a1,a2,rv,hz,w5⟩
  | true =>
   have q5':te τ4 H5 fun v H4=>∃ m',m'<m1/\W (k+1) m' τ4 (ys++[v]) H4:=q5;refine wpAny_bind (wpAny_bind (no (jv (he _ s5 τ4 H5 _ I5 q5') fun v s6 ⟨y,H6,I6,r6,m',hm,w6⟩=>?_)));obtain⟨a1,a2⟩:=frs5 I6;have I7:=I6.unpinned;obtain⟨eD,nD,neD,nfD,_⟩:=I7.pin (D,ni its n) (aC _ ar);have hlen:=rv.length;have eD':s6.heap.get? D=some { cls:=.type "list",data:=.seq its.toArray n }:=eD;refine wpAny_bind (call_meets F.slot_list_append ⟨_,eD',rfl⟩ F.entry_list_append (F.args_list_append_2 _ _) (PySem.list_append D its.toArray n v (by rw [af];(first|lia|omega))) ⟨eD',?_⟩);have qD:=PySem.IsL.update eD' (·.push v);have I8:Inv Y [] τ4 H6 s6:=I7.pins_of fun p hp=>absurd hp ah;have I9:Inv Y [] τ4 H6 { s6 with heap:=s6.heap.update D (Obj.mapSeq (·.push v)) }:=I8.turned (t':=s6.toks) (fun b o hb e=>(Heap.get?_update_other s6.heap (Obj.mapSeq (·.push v)) (Ne.symm hb)).trans e) nD neD (.inr hDs) hDc fun p hp=>hDp p (by simpa using hp);have ep:its.toArray.push v=(its++[v]).toArray:=by simp
   rw [ep] at qD;obtain⟨n2,qD⟩:∃ n2,(s6.heap.update D (Obj.mapSeq (·.push v))).get? D=some (ni (its++[v]) n2):=⟨_,qD⟩;have I10:Inv Y [(D,ni (its++[v]) n2)] τ4 H6 { s6 with heap:=s6.heap.update D (Obj.mapSeq (·.push v)) }:=I9.pins_of fun p hp=>by
    have e:p=(D,ni (its++[v]) n2):=by simpa using hp
    subst e;exact⟨qD,nD,neD,nfD,fun v z=>by have z':Data.seq _ _=Data.cell v:=z;cases z'⟩
   refine wpAny_pure (wpAny_pure ⟨rfl,m',hm,k+1,τ4,H6,ys++[y],its++[v],_,I10,?_,a2,rv.append (.cons r6 .nil),?_,w6⟩)
   ·refine T.keep _ _ _ a1 fun b hb o e=>(Heap.get?_update_other s6.heap (Obj.mapSeq (·.push v)) ?_).trans e;have f5:=(stat (ni its n) H6 a2 b hb).2.2.2.2.2;exact f5 (D,ni its n) (aC _ ar)
   ·rw [aF,bK]
    (first|lia|omega)
theorem nA{scope:Scope}{env:Env}(h:∀ y∈scope.names,y.2 = .free->∃ c,env.cells.lookup y.1=some c):closureFor scope env=pure (jQ env.cells scope.names []):=by
 have q:=lx (env:=env) (acc:=[]) h;unfold closureFor;show (forIn scope.names [] _ >>= fun r=>pure r)=_;refine Eq.trans (congrArg (· >>= fun r=>pure r) (Eq.trans ?_ q)) (by simp);refine congrArg (forIn scope.names []) ?_;funext x r;obtain⟨n,k⟩:=x;first
  | rfl
  | (dsimp only;split <;> simp)
def vN(J:It)(g:TG)(tt:TT)(te:TE)(σ:St)(Q:VK)(H1:Hp):Prop:=∃ W:Nat->Nat->St->List V->Hp->Prop,(∃ m,W 0 m σ [] H1) /\
 ∀ k m τ ys H,W k m τ ys H->(J.stop k H/\∀ D,H D=none->Q (.ref D) (jr H D (.lst ys)))\/(J.go k H/\ys.length<sizeLine/\∀ x H',J.yld k H x H'->g x τ H' fun τ2 H2=>tt τ2 H2 fun b H3 =>
   if b=true then te τ2 H3 fun v H4=>∃ m',m'<m/\W (k+1) m' τ2 (ys++[v]) H4 else ∃ m',m'<m/\W (k+1) m' τ2 ys H3)
def xw(wi:TI)(hide:List Nat)(g:TG)(tt:TT)(te:TE):TE:=fun σ H Q=>wi σ H fun J H1=>vN J g tt te (mI hide σ) Q H1
theorem vF{X:Cx}{pins:List (Addr×Obj)}{σ:St}{H:Hp}{s:Shared}{elt tg iter:Expr}{ifs:List Expr}{scope:Scope}{pos:Pos}{hide:List Nat}{g:TG}{te:TE}{tt:TT}{J:It}{fp:List Addr}{it:Addr}{tn:Nat->Heap->Prop}{RR:Value->Addr->Result->Shared->Prop}{Q:VK}{E:Value->Shared->Prop}
  (hc:X.calm=true) (S:CompS X.N X.env.scope scope hide)
  (hg:∀ s2 H2 fp pins C,PG (kS X scope s2 H2 fp pins C) tg g) (ht:∀ s2 H2 fp pins C,PTs (kS X scope s2 H2 fp pins C) ifs tt) (he:∀ s2 H2 fp pins C,PE (kS X scope s2 H2 fp pins C) elt te)
  (I:Inv X pins σ H s) (T:Turn X.prog X.w X.K tg J fp it tn) (st:tn 0 s.heap) (hf:∀ b∈fp,kH X pins H b)
  (h:∃ W:Nat->Nat->St->List V->Hp->Prop,(∃ m,W 0 m (mI hide σ) [] H) /\
   ∀ k m τ ys H,W k m τ ys H->(J.stop k H/\∀ D,H D=none->Q (.ref D) (jr H D (.lst ys)))\/(J.go k H/\ys.length<sizeLine/\∀ x H',J.yld k H x H'->g x τ H' fun τ2 H2=>tt τ2 H2 fun b H3 =>
    if b=true then te τ2 H3 fun v H4=>∃ m',m'<m/\W (k+1) m' τ2 (ys++[v]) H4 else ∃ m',m'<m/\W (k+1) m' τ2 ys H3))
  (hRR:∀ D C s' ys H',Inv X pins σ (jr H' D (.lst ys)) s'->kH X pins (jr H' D (.lst ys)) C->(∃ m,s'.heap.Ns C m)->Q (.ref D) (jr H' D (.lst ys))->RR (.ref D) C (.ok .next) s') :
  wpAny (model X.prog X.w) X.A (newList []) (fun acc s3=>wpAny (model X.prog X.w) X.A (newFunctionEnv scope X.env.globals (jQ X.env.cells scope.names []) [] X.env.qual none .none (some X.env)) (fun cenv s4 =>
   codeAny (model X.prog X.w) X.A (.compStart (.ListComp elt [⟨tg,iter,ifs,0⟩] scope pos) 0 (.ref it) acc { cenv with scope:=relabel scope X.env }) (RR acc cenv.locals) s4) E s3) E s:=by
 obtain⟨W,⟨m0,w0⟩,turn⟩:=h;refine wpAny_newList (wE ?_) (by simp);dsimp only;generalize hH2:s.heap.push { cls:=.type "list",data:=.seq ([]:List Value).toArray }=H2;have hC:H2.objs.size=s.heap.objs.size+1:=by rw [← hH2,Heap.size_push]
 have k2:∀ b o,H2.get? b=some o->(pushCells (H2.push { cls:=.type "dict",data:=.dict #[] }) scope.names).get? b=some o:=fun b o e=>pushCells_keeps _ _ b o (Heap.get?_push_of_some _ e);have hcl:∀ p∈cellsFrom (H2.objs.size+1) scope.names (jQ X.env.cells scope.names []),p∈jQ X.env.cells scope.names []\/(pushCells (H2.push { cls:=.type "dict",data:=.dict #[] }) scope.names).IsCell p.2 none:=fun p hp=>by
  rw [← Heap.size_push H2 { cls:=.type "dict",data:=.dict #[] }] at hp;exact o9 hp
 have hns₁:(pushCells (H2.push { cls:=.type "dict",data:=.dict #[] }) scope.names).Ns H2.objs.size fun _=>none:=(Heap.Ns.new H2 (.type "dict")).keeps (pushCells_keeps _ _);generalize pushCells (H2.push { cls:=.type "dict",data:=.dict #[] }) scope.names=h₁ at k2 hcl hns₁ ⊢;have k1:∀ b o,s.heap.get? b=some o->h₁.get? b=some o:=fun b o e=>k2 b o (hH2 ▸ Heap.get?_push_of_some _ e);have hDC:s.heap.objs.size≠H2.objs.size:=by rw [hC];exact aA (Nat.lt_succ_self _)
 have eD:h₁.get? s.heap.objs.size=some (ni [] 0):=k2 _ _ (hH2 ▸ Heap.get?_push_size _ rfl);have hfo:∀ b∈fp,∃ o,s.heap.get? b=some o:=fun b hb=>let ⟨o,e,_⟩:=T.obj _ _ st b hb;⟨o,e⟩;have hle:s.heap.objs.size<=H2.objs.size:=by rw [hC];exact bN _
 have I1:=B3 (tk:=s.toks) S I hf hfo hle (aj _) hDC k1 hcl hns₁ eD (fun v z=>by have z':Data.seq _ _=Data.cell v:=z;cases z');have sub:∀ x c,(cellsFrom (H2.objs.size+1) scope.names (jQ X.env.cells scope.names [])).lookup x=some c->X.env.cells.lookup x=some c\/H2.objs.size+1<=c:=fun x c e=>(nz (fun y hy e=>I.ok.has y.1 (S.free y hy e)) (ju e)).imp (·.1) (·.1);have st1:tn 0 h₁:=T.keep _ _ _ st fun b _ o e=>k1 b o e;have lp:codeAny (model X.prog X.w) X.A (.compLoop (.ListComp elt [⟨tg,iter,ifs,0⟩] scope pos) 0 (.ref it) (.ref s.heap.objs.size) (compEnvC scope (cellsFrom (H2.objs.size+1) scope.names (jQ X.env.cells scope.names [])) H2.objs.size X.env)) (RR (.ref s.heap.objs.size) H2.objs.size)
   { s with heap:=h₁ }:=by
  refine AL (Y:=kS X scope s H fp pins H2.objs.size) (Z:=fun ys H=>∀ D,H D=none->Q (.ref D) (jr H D (.lst ys))) T hc (hg _ _ _ _ _) (ht _ _ _ _ _) (he _ _ _ _ _) (fun _ _ z=>z) (fun ob H' hn b hb=>?_) (aj _) (fun x c e z=>?_) (fun p hp z=>?_) turn (fun τ H' s' ys its n J rv hz q=>?_) I1 st1 (fun b hb=>(hf b hb).1) w0
  ·obtain⟨f0,f1,f2,f3,f4,f5⟩:=hf b hb;obtain⟨o,e⟩:=hfo b hb;have lb:=Heap.lt_size e;refine⟨hn b hb,aA (ak lb hle),fun z=>?_,.inl hb,fun x c e=>(sub x c e).elim (f4 x c) fun z=>cj (ak lb (az hle (bB z))),fun p hp=>?_⟩
   ·rcases ai.mp (I.stkSub b z) with q|q
    ·exact f1 q
    ·exact f2 q
   ·rcases bw.mp hp with z|z
    ·exact f5 p z
    ·have e:p=(s.heap.objs.size,ob):=by simpa using z
     subst e;exact cj lb
  ·rcases sub x c e with w|w
   ·obtain⟨v,o,ho,_⟩:=I.cell x c w;exact absurd (Heap.lt_size ho) (by rw [z];exact aM _)
   ·rw [z,hC] at w;exact absurd (bB w) (Nat.not_succ_le_self _)
  ·exact absurd (Heap.lt_size (I.pin p hp).1) (by rw [z];exact aM _)
  ·obtain⟨_,nD,_⟩:=J.pin _ (aC _ ar);have nC:H' H2.objs.size=none:=J.free;refine hRR _ _ s' ys H' (B2 I hf (aj _) J ar rv hz) (I.fpOk hle ?_) ?_ (q _ nD)
   ·rw [jh (Ne.symm hDC)];exact nC
   ·obtain⟨m,hm,_⟩:=J.loc;exact⟨m,hm⟩
 exact codeAny_compStart_list lp (T.self X.A 0 _ _ _ st1 lp)
section
variable{X:Cx}{elt tg iter:Expr}{ifs:List Expr}{scope:Scope}{pos:Pos}{hide:List Nat}{wi:TI}{g:TG}{te:TE}{tt:TT}
theorem rR(hc:X.calm=true)(S:CompS X.N X.env.scope scope hide)(hi:PI X tg iter wi)
  (hg:∀ s2 H2 fp pins C,PG (kS X scope s2 H2 fp pins C) tg g) (ht:∀ s2 H2 fp pins C,PTs (kS X scope s2 H2 fp pins C) ifs tt) (he:∀ s2 H2 fp pins C,PE (kS X scope s2 H2 fp pins C) elt te)
  (hs:∀ x,foldedSetIterable iter X.env x=pure x:=by intro _;rfl):PE X (.ListComp elt [⟨tg,iter,ifs,0⟩] scope pos) (xw wi hide g tt te):=by
 intro pins s σ H Q I h;rw [eval_ListComp];refine wpAny_comprehension_free (use:=none) rfl hs (nA fun y hy e=>I.ok.has y.1 (S.free y hy e)) S.kind S.loc (jv (hi pins s σ H _ I h) fun v s1 h1=>jv h1 fun itv s2 h2=>?_);obtain⟨it,fp,tn,J,H2,e,I2,T,st2,f2,q2⟩:=h2;subst e;refine vF (RR:=fun acc C=>compPost (model X.prog X.w) X.A X.xe none (EP X pins σ Q) acc C) hc S hg ht he I2 T st2 f2 q2 fun D C s' ys H' I' fC hN q=>?_;obtain⟨m,hm⟩:=hN;obtain⟨f0,f1,f2,f3,f4,f5⟩:=fC;refine⟨m,hm,fun h' sb=>⟨.ref D,_,?_,rfl,q⟩⟩;exact I'.turned (t':=s'.toks) (fun b o hb e=>(sb.2 b hb).trans e) f0 f1 f3 f4 f5
theorem v8{i:Nat}{y:Str}{py spos:Pos}(hc:X.calm=true)(hN:X.N.Nodup)(hy:X.N[i]? = some y)(hl:tX X.env.scope y)(S:CompS X.N X.env.scope scope hide)(hi:PI X tg iter wi)
  (hg:∀ s2 H2 fp pins C,PG (kS X scope s2 H2 fp pins C) tg g) (ht:∀ s2 H2 fp pins C,PTs (kS X scope s2 H2 fp pins C) ifs tt) (he:∀ s2 H2 fp pins C,PE (kS X scope s2 H2 fp pins C) elt te)
  (hs:∀ x,foldedSetIterable iter X.env x=pure x:=by intro _;rfl)
  (hsw:swapsWith (.ListComp elt [⟨tg,iter,ifs,0⟩] scope pos) (some (.Name y py)) spos.line X.env=pure true:=by rfl)
  (hf:X.fn y=true\/X.env.scope.names.lookup y=some .local:=by first|exact .inl rfl|exact .inr rfl|assumption) :
  PS X (.Assign [.Name y py] (.ListComp elt [⟨tg,iter,ifs,0⟩] scope pos) spos) (fun D σ H=>xw wi hide g tt te σ H fun v H1=>D.nx (σ.set i (some v)) H1):=by
 intro pins s σ H D I h;rw [exec_Assign_Name_used _ _ _ _ hsw];refine wpAny_bind (wpAny_standAt (wpAny_bind ?_));show wpAny _ X.A (do let _ ← comprehension (.ListComp elt [⟨tg,iter,ifs,0⟩] scope pos) scope X.env _ (newList []) false (eval iter X.env) (some (assign (.Name y py) X.env))) _ _ s;refine wpAny_bind (jv (wpAny_comprehension_free (use:=some (assign (.Name y py) X.env)) (Q:=fun _ s'=>SP X pins D .next s') rfl hs (nA fun y hy e=>I.ok.has y.1 (S.free y hy e)) S.kind S.loc
  (jv (hi pins s σ H _ I h) fun v s1 h1=>jv h1 fun itv s2 h2=>?_)) (fun _ s' hq=>wpAny_pure (wpAny_pure hq)))
 obtain⟨it,fp,tn,J,H2,e,I2,T,st2,f2,q2⟩:=h2;subst e;refine vF (Q:=fun v H1=>D.nx (σ.set i (some v)) H1) (RR:=fun acc C=>compPost (model X.prog X.w) X.A X.xe (some (assign (.Name y py) X.env)) (fun _ s'=>SP X pins D .next s') acc C) hc S hg ht he I2 T st2 f2 q2 fun A C s' ys H' I' fC hNs q=>?_;obtain⟨m,hm⟩:=hNs;obtain⟨f0,f1,f2,f3,f4,f5⟩:=fC;show wpAny _ X.A (assign (.Name y py) X.env (.ref A)) _ _ s';refine wpAny_assign_Name (nR I' hN hy hl (v:=.ref A) rfl (fun s'' I'' hch=>?_) hf);obtain⟨a,sb,ha⟩:=hch;have nC:C≠a:=by
  rcases ha with z|z
  ·rw [z];exact f1
  ·exact Ne.symm (f4 _ _ z)
 refine⟨m,hm.sameBut sb nC,fun h3 sb3=>⟨_,_,?_,q⟩⟩;exact I''.turned (t':=s''.toks) (fun b o hb e=>(sb3.2 b hb).trans e) f0 f1 f3 f4 f5
end
end L2
namespace L2
open PySem PySem.Spec PyProof.Rows
def Lt2(n:Nat)(i:Int):Prop:=i.natAbs<2^n
theorem Lt2.mono{n m:Nat}{i:Int}(h:Lt2 n i)(l:n<=m):Lt2 m i:=ak h (aZ (by decide) l)
theorem Lt2.mul{n m:Nat}{i j:Int}(h:Lt2 n i)(l:Lt2 m j):Lt2 (n+m) (i*j):=by
 unfold Lt2;rw [bX,Nat.pow_add];exact Nat.mul_lt_mul'' h l
theorem Lt2.add{n:Nat}{i j:Int}(h:Lt2 n i)(l:Lt2 n j):Lt2 (n+1) (i+j):=by
 unfold Lt2 at *;rw [de]
 (first|lia|omega)
theorem Lt2.le{n:Nat}{i j:Int}(h:Lt2 n i)(l:j.natAbs<=i.natAbs):Lt2 n j:=bv l h
def CMulB(i j:Int):Prop:=∃ n m,Lt2 n i/\Lt2 m j/\n+m<=100000000
theorem CMulB.ok{i j:Int}(h:CMulB i j):IntMulOk i j:=by
 obtain⟨n,m,h1,h2,h3⟩:=h;have a:=PyProof.Rows.intBits_le h1;have b:=PyProof.Rows.intBits_le h2;unfold IntMulOk;intro z;simp only [ax,decide_eq_true_eq] at z;have z2:((Builtin.Int.intBits i:Int)+(Builtin.Int.intBits j:Int)) > ((2^27:Nat):Int):=of_decide_eq_true z.2;have e:(2^27:Nat)=134217728:=by decide
 rw [e] at z2
 (first|lia|omega)
def lW(i j:Int):Prop:=j≠0/\∃ n,Lt2 n j/\n<=100000000
theorem Inv.pyl{X:Cx}{pins:List (Addr×Obj)}{σ:St}{H:Hp}{s:Shared}{k:Nat}(I:Inv X pins σ H s)(hr:Room k X.A):PySem.PylongRoom (model X.prog X.w) X.A s:=by
 obtain⟨e,l,h1,h2,h3,h4,h5⟩:=I.ok.rn;exact PySem.PylongRoom.of I.nolimit (by have:=hr.dp;show X.A.depth+100<_;(first|lia|omega)) (PySem.SeerAt.of (I.ok.sr.1.keeps I.bk) I.ok.sr.2 (by rw [I.ok.frames,h1]) h2 h3 h4 h5)
theorem Ck{X:Cx}{f:Value->Value->Sem Value}{C:Int->Int->Prop}{g:Int->Int->Int}{k:Nat}(hr:Room k X.A)
  (rule:∀(i j:Int) (t u:Tok) (s:Shared) (Q:Value->Shared->Prop) (E:Value->Shared->Prop),PySem.PylongRoom (model X.prog X.w) X.A s->C i j->Q (.int (g i j) s.toks) { s with toks:=s.toks+1 }->wpAny (model X.prog X.w) X.A (f (.int i t) (.int j u)) Q E s) :
  OpR X f (rI C fun i j=>.int (g i j)):=by
 intro pins s σ H x y v u Q I rx ry h;obtain⟨i,j,rfl,rfl,hc,q⟩:=h;obtain⟨t,rfl⟩:=rx;obtain⟨t',rfl⟩:=ry;exact rule i j t t' s _ _ (Inv.pyl I hr) hc ⟨.int (g i j),H,I.tok _,⟨_,rfl⟩,q⟩
section
variable{X:Cx}
theorem wo:OpR X (binaryOp .Mult) (rI CMulB fun i j=>.int (i*j)):=xK fun _ _ _ _ _ _ _ hc q=>mul_int q hc.ok
theorem pU{k:Nat}(hr:Room k X.A):OpR X (binaryOp .FloorDiv) (rI lW fun i j=>.int (i.fdiv j)):=Ck hr fun _ _ _ _ _ _ _ hp hc q=>floordiv_int hc.1 q (.inr hp)
theorem vb:OpR X (inplaceOp .Mult) (rI CMulB fun i j=>.int (i*j)):=xK fun _ _ _ _ _ _ _ hc q=>imul_int q hc.ok
theorem tJ{k:Nat}(hr:Room k X.A):OpR X (inplaceOp .FloorDiv) (rI lW fun i j=>.int (i.fdiv j)):=Ck hr fun _ _ _ _ _ _ _ hp hc q=>ifloordiv_int hc.1 q (.inr hp)
end
inductive DV where
 | int (i:Int)|str (x:Str)|non|bl (b:Bool)|tup (xs:List DV)|lst (xs:List DV)
mutual
def Rep(K:Frag)(H:Hp):DV->V->Prop
 | .int i,v=>v = .int i
 | .str x,v=>v = .str x
 | .non,v=>v = .non
 | .bl b,v=>v = .bl b
 | .tup ds,v=>∃ a vs,v = .ref a/\SqT K H a vs/\Reps K H ds vs
 | .lst ds,v=>∃ a vs,v = .ref a/\SqL K H a vs/\Reps K H ds vs
def Reps(K:Frag)(H:Hp):List DV->List V->Prop
 | [],vs=>vs=[]
 | d::ds,vs=>∃ v r,vs=v::r/\Rep K H d v/\Reps K H ds r
end
mutual
def DV.pl:DV->Bool
 | .int _=>true | .str _=>true | .non=>true | .bl _=>false
 | .tup ds=>DV.pls ds
 | .lst ds=>DV.pls ds
def DV.pls:List DV->Bool
 | []=>true
 | d::ds=>DV.pl d && DV.pls ds
end
mutual
def DV.dp:DV->Nat
 | .tup ds=>DV.dps ds+1
 | .lst ds=>DV.dps ds+1
 | _=>0
def DV.dps:List DV->Nat
 | []=>0
 | d::ds=>max (DV.dp d) (DV.dps ds)
end
theorem SqT.same{K:Frag}{H H':Hp}{a:Addr}{xs:List V}(e:Same H H')(h:SqT K H a xs):SqT K H' a xs:=by
 rcases h with (h|⟨o,h⟩)|h
 ·exact .inl (.inl (e _ _ h))
 ·exact .inl (.inr ⟨o,e _ _ h⟩)
 ·exact .inr h
theorem Reps.length{K:Frag}{H:Hp}:∀{ds:List DV} {vs:List V},Reps K H ds vs->ds.length=vs.length
 | [],vs,h=>by
  have h':vs=[]:=by unfold Reps at h;exact h
  rw [h'];rfl
 | d::ds,vs,h=>by
  unfold Reps at h;obtain⟨v,r,e,_,h'⟩:=h;rw [e,aJ,aJ,Reps.length h']
mutual
theorem Rep.same{K:Frag}{H H':Hp}(e:Same H H'):∀{d:DV} {v:V},Rep K H d v->Rep K H' d v
 | .int i,v,h=>by unfold Rep at *;exact h
 | .str i,v,h=>by unfold Rep at *;exact h
 | .non,v,h=>by unfold Rep at *;exact h
 | .bl i,v,h=>by unfold Rep at *;exact h
 | .tup ds,v,h=>by
  unfold Rep at *;obtain⟨a,vs,h1,h2,h3⟩:=h;exact⟨a,vs,h1,h2.same e,Reps.same e h3⟩
 | .lst ds,v,h=>by
  unfold Rep at *;obtain⟨a,vs,h1,h2,h3⟩:=h;exact⟨a,vs,h1,e.seq h2,Reps.same e h3⟩
theorem Reps.same{K:Frag}{H H':Hp}(e:Same H H'):∀{ds:List DV} {vs:List V},Reps K H ds vs->Reps K H' ds vs
 | [],v,h=>by unfold Reps at *;exact h
 | d::ds,vs,h=>by
  unfold Reps at *;obtain⟨v,r,h1,h2,h3⟩:=h;exact⟨v,r,h1,Rep.same e h2,Reps.same e h3⟩
end
section
variable{X:Cx}{pins:List (Addr×Obj)}{σ:St}{H:Hp}{s:Shared}
mutual
theorem Rep.inj(I:Inv X pins σ H s):∀{d d':DV} {v:V},Rep X.K H d v->Rep X.K H d' v->d=d'
 | .int i,d',v,h,h'=>by
  unfold Rep at h;subst h;cases d' <;> unfold Rep at h' <;> first|(cases h';done)|(cases h';rfl)|(obtain⟨_,_,e,_⟩:=h';cases e)
 | .str i,d',v,h,h'=>by
  unfold Rep at h;subst h;cases d' <;> unfold Rep at h' <;> first|(cases h';done)|(cases h';rfl)|(obtain⟨_,_,e,_⟩:=h';cases e)
 | .non,d',v,h,h'=>by
  unfold Rep at h;subst h;cases d' <;> unfold Rep at h' <;> first|(cases h';done)|(cases h';rfl)|rfl|(obtain⟨_,_,e,_⟩:=h';cases e)
 | .bl i,d',v,h,h'=>by
  unfold Rep at h;subst h;cases d' <;> unfold Rep at h' <;> first|(cases h';done)|(cases h';rfl)|(obtain⟨_,_,e,_⟩:=h';cases e)
 | .tup ds,d',v,h,h'=>by
  unfold Rep at h;obtain⟨a,vs,rfl,h2,h3⟩:=h;cases d' with
  | tup ds' =>
   unfold Rep at h';obtain⟨a',vs',e,h2',h3'⟩:=h';cases e;have:=I.tuple_inj h2 h2';subst this;rw [Reps.inj I h3 h3']
  | lst ds' =>
   unfold Rep at h';obtain⟨a',vs',e,h2',h3'⟩:=h';cases e;obtain⟨_,_,p,_⟩:=I.tuple h2;obtain⟨_,_,p',_⟩:=I.list h2';exact absurd rfl (SeqAt.ne_of_list_tuple p'.isList p)
  | _=>unfold Rep at h';cases h'
 | .lst ds,d',v,h,h'=>by
  unfold Rep at h;obtain⟨a,vs,rfl,h2,h3⟩:=h;cases d' with
  | lst ds' =>
   unfold Rep at h';obtain⟨a',vs',e,h2',h3'⟩:=h';cases e;have:=I.list_inj h2 h2';subst this;rw [Reps.inj I h3 h3']
  | tup ds' =>
   unfold Rep at h';obtain⟨a',vs',e,h2',h3'⟩:=h';cases e;obtain⟨_,_,p,_⟩:=I.tuple h2';obtain⟨_,_,p',_⟩:=I.list h2;exact absurd rfl (SeqAt.ne_of_list_tuple p'.isList p)
  | _=>unfold Rep at h';cases h'
theorem Reps.inj(I:Inv X pins σ H s):∀{ds ds':List DV} {vs:List V},Reps X.K H ds vs->Reps X.K H ds' vs->ds=ds'
 | [],ds',vs,h,h'=>by
  unfold Reps at h;subst h;cases ds' with
  | nil=>rfl
  | cons d r=>unfold Reps at h';obtain⟨_,_,e,_⟩:=h';cases e
 | d::ds,ds',vs,h,h'=>by
  unfold Reps at h;obtain⟨v,r,e,h1,h2⟩:=h;cases ds' with
  | nil=>unfold Reps at h';rw [h'] at e;cases e
  | cons d' r' =>
   unfold Reps at h';obtain⟨v',r2,e',h1',h2'⟩:=h';rw [e] at e';cases e';rw [Rep.inj I h1 h1',Reps.inj I h2 h2']
end
end
theorem all_cons{e:Nat->Bool}{n:Nat}:(List.range (n+1)).all e=(e 0 && (List.range n).all fun j=>e (j+1)):=by
 rw [db,b8,dc];rfl
theorem oR{e:Nat->Bool}{n m:Nat}(h:n=m):((List.range (min n m)).all e && n == m)=(List.range n).all e:=by
 subst h;rw [Nat.min_self];simp
section
variable{X:Cx}{pins:List (Addr×Obj)}{σ:St}{H:Hp}{s:Shared}
mutual
theorem Ct(I:Inv X pins σ H s):∀(d d':DV) (A:Around) {x y:V} {u v:Value},Rep X.K H d x->Rep X.K H d' y->RelV x u->RelV y v->d.pl=true->d'.pl=true->A.units+d.dp+1<cLine ->
  ∃ b,SeqAt.EqAt A s u v b/\(b=true↔d=d')
 | .bl _,_,_,_,_,_,_,_,_,_,_,p,_,_=>by unfold DV.pl at p;cases p
 | _,.bl _,_,_,_,_,_,_,_,_,_,_,p,_=>by unfold DV.pl at p;cases p
 | .int i,d',A,x,y,u,v,h,h',rx,ry,_,_,hu=>by
  have hu:A.units<cLine:=by first|lia|omega
  unfold Rep at h;subst h;obtain⟨t,rfl⟩:=rx;cases d' with
  | bl b=>contradiction
  | int j =>
   unfold Rep at h';subst h';obtain⟨t',rfl⟩:=ry;exact⟨_,SeqAt.EqAt.int_int _ _ _ _,by rw [beq_iff_eq];exact⟨fun e=>by rw [e],fun e=>by cases e;rfl⟩⟩
  | str z =>
   unfold Rep at h';subst h';obtain⟨t',rfl⟩:=ry;exact⟨_,SeqAt.EqAt.int_str _ _ _ _,by simp⟩
  | non =>
   unfold Rep at h';subst h';cases ry;exact⟨_,SeqAt.EqAt.int_none _ _,by simp⟩
  | tup ds' =>
   unfold Rep at h';obtain⟨a,vs,rfl,h2,_⟩:=h';cases ry;obtain⟨_,_,p,_⟩:=I.tuple h2;exact⟨_,SeqAt.EqAt.int_tuple _ _ p hu,by simp⟩
  | lst ds' =>
   unfold Rep at h';obtain⟨a,vs,rfl,h2,_⟩:=h';cases ry;obtain⟨_,_,p,_⟩:=I.list h2;exact⟨_,SeqAt.EqAt.int_list _ _ p.isList hu,by simp⟩
 | .str i,d',A,x,y,u,v,h,h',rx,ry,_,_,hu=>by
  have hu:A.units<cLine:=by first|lia|omega
  unfold Rep at h;subst h;obtain⟨t,rfl⟩:=rx;cases d' with
  | bl b=>contradiction
  | int j =>
   unfold Rep at h';subst h';obtain⟨t',rfl⟩:=ry;exact⟨_,SeqAt.EqAt.str_int _ _ _ _,by simp⟩
  | str z =>
   unfold Rep at h';subst h';obtain⟨t',rfl⟩:=ry;exact⟨_,SeqAt.EqAt.str_str _ _ _ _,by rw [beq_iff_eq];exact⟨fun e=>by rw [e],fun e=>by cases e;rfl⟩⟩
  | non =>
   unfold Rep at h';subst h';cases ry;exact⟨_,SeqAt.EqAt.str_none _ _,by simp⟩
  | tup ds' =>
   unfold Rep at h';obtain⟨a,vs,rfl,h2,_⟩:=h';cases ry;obtain⟨_,_,p,_⟩:=I.tuple h2;exact⟨_,SeqAt.EqAt.str_tuple _ _ p hu,by simp⟩
  | lst ds' =>
   unfold Rep at h';obtain⟨a,vs,rfl,h2,_⟩:=h';cases ry;obtain⟨_,_,p,_⟩:=I.list h2;exact⟨_,SeqAt.EqAt.str_list _ _ p.isList hu,by simp⟩
 | .non,d',A,x,y,u,v,h,h',rx,ry,_,_,hu=>by
  have hu:A.units<cLine:=by first|lia|omega
  unfold Rep at h;subst h;cases rx;cases d' with
  | bl b=>contradiction
  | int j =>
   unfold Rep at h';subst h';obtain⟨t',rfl⟩:=ry;exact⟨_,SeqAt.EqAt.none_int _ _,by simp⟩
  | str z =>
   unfold Rep at h';subst h';obtain⟨t',rfl⟩:=ry;exact⟨_,SeqAt.EqAt.none_str _ _,by simp⟩
  | non =>
   unfold Rep at h';subst h';cases ry;exact⟨_,SeqAt.EqAt.same _,by simp⟩
  | tup ds' =>
   unfold Rep at h';obtain⟨a,vs,rfl,h2,_⟩:=h';cases ry;obtain⟨_,_,p,_⟩:=I.tuple h2;exact⟨_,SeqAt.EqAt.none_tuple p hu,by simp⟩
  | lst ds' =>
   unfold Rep at h';obtain⟨a,vs,rfl,h2,_⟩:=h';cases ry;obtain⟨_,_,p,_⟩:=I.list h2;exact⟨_,SeqAt.EqAt.none_list p.isList hu,by simp⟩
 | .tup ds,d',A,x,y,u,v,h,h',rx,ry,pp,pp',hu=>by
  have hu0:A.units<cLine:=by first|lia|omega
  have hd:=h;unfold Rep at h;obtain⟨a,vs,rfl,h2,h3⟩:=h;cases rx;obtain⟨its,rv,p,_⟩:=I.tuple h2;cases d' with
  | bl b=>contradiction
  | int j =>
   unfold Rep at h';subst h';obtain⟨t',rfl⟩:=ry;exact⟨_,SeqAt.EqAt.tuple_int _ _ p hu0,by simp⟩
  | str z =>
   unfold Rep at h';subst h';obtain⟨t',rfl⟩:=ry;exact⟨_,SeqAt.EqAt.tuple_str _ _ p hu0,by simp⟩
  | non =>
   unfold Rep at h';subst h';cases ry;exact⟨_,SeqAt.EqAt.tuple_none p hu0,by simp⟩
  | lst ds' =>
   unfold Rep at h';obtain⟨a',vs',rfl,h2',_⟩:=h';cases ry;obtain⟨_,_,p',_⟩:=I.list h2';exact⟨_,SeqAt.EqAt.tuple_list p p'.isList hu0,by simp⟩
  | tup ds' =>
   have hd':=h';unfold Rep at h';obtain⟨a',vs',rfl,h2',h3'⟩:=h';cases ry;obtain⟨its',rv',p',_⟩:=I.tuple h2';by_cases e:a=a'
   ·subst e;exact⟨true,SeqAt.EqAt.same _,by simp [Rep.inj I hd hd']⟩
   ·unfold DV.pl at pp pp';unfold DV.dp at hu;obtain⟨f,hf,hi⟩:=rc I ds ds' A.in1 h3 h3' rv rv' pp pp' (by show A.units+1+_+1<_;(first|lia|omega));refine⟨_,SeqAt.EqAt.of_refs e (SeqAt.RcAt.tuples p p' hu0 (e:=f) fun j h1 h2=>?_),?_⟩
    ·have q:=hf j (by simpa using h1) (by simpa using h2);simpa using q
    ·simp only [af,DV.tup.injEq];exact hi
 | .lst ds,d',A,x,y,u,v,h,h',rx,ry,pp,pp',hu=>by
  have hu0:A.units<cLine:=by first|lia|omega
  have hd:=h;unfold Rep at h;obtain⟨a,vs,rfl,h2,h3⟩:=h;cases rx;obtain⟨its,rv,p,_⟩:=I.list h2;cases d' with
  | bl b=>contradiction
  | int j =>
   unfold Rep at h';subst h';obtain⟨t',rfl⟩:=ry;exact⟨_,SeqAt.EqAt.list_int _ _ p.isList hu0,by simp⟩
  | str z =>
   unfold Rep at h';subst h';obtain⟨t',rfl⟩:=ry;exact⟨_,SeqAt.EqAt.list_str _ _ p.isList hu0,by simp⟩
  | non =>
   unfold Rep at h';subst h';cases ry;exact⟨_,SeqAt.EqAt.list_none p.isList hu0,by simp⟩
  | tup ds' =>
   unfold Rep at h';obtain⟨a',vs',rfl,h2',_⟩:=h';cases ry;obtain⟨_,_,p',_⟩:=I.tuple h2';exact⟨_,SeqAt.EqAt.list_tuple p.isList p' hu0,by simp⟩
  | lst ds' =>
   have hd':=h';unfold Rep at h';obtain⟨a',vs',rfl,h2',h3'⟩:=h';cases ry;obtain⟨its',rv',p',_⟩:=I.list h2';by_cases e:a=a'
   ·subst e;exact⟨true,SeqAt.EqAt.same _,by simp [Rep.inj I hd hd']⟩
   ·unfold DV.pl at pp pp';unfold DV.dp at hu;obtain⟨f,hf,hi⟩:=rc I ds ds' A.in1 h3 h3' rv rv' pp pp' (by show A.units+1+_+1<_;(first|lia|omega));by_cases hz:its.length=its'.length
    ·refine⟨_,SeqAt.EqAt.of_refs e (SeqAt.RcAt.lists p.isList p'.isList (by simpa using hz) hu0 (e:=f) fun j h1 h2=>?_),?_⟩
     ·have q:=hf j (by simpa using h1) (by simpa using h2);simpa using q
     ·simp only [af,DV.lst.injEq];rw [oR hz] at hi;exact hi
    ·refine⟨_,SeqAt.EqAt.of_refs e (SeqAt.RcAt.lists_lengths p.isList p'.isList (by simpa using hz) hu0),?_⟩;simp only [bH,false_iff,DV.lst.injEq];intro z;have l1:=h3.length;have l2:=h3'.length;rw [z] at l1;exact hz (by rw [← rv.length,← rv'.length,← l1,← l2])
theorem rc(I:Inv X pins σ H s):∀(ds ds':List DV) (A:Around) {xs ys:List V} {us vs:List Value},Reps X.K H ds xs->Reps X.K H ds' ys->Vals xs us->Vals ys vs->DV.pls ds=true->DV.pls ds'=true->A.units+DV.dps ds+1<cLine ->
  ∃ e:Nat->Bool,(∀ j (h1:j<us.length) (h2:j<vs.length),SeqAt.EqAt A s us[j] vs[j] (e j))/\((((List.range (min us.length vs.length)).all e && us.length == vs.length)=true)↔ds=ds')
 | [],ds',A,xs,ys,us,vs,h,h',rx,ry,_,_,_=>by
  unfold Reps at h;subst h;cases rx;refine⟨fun _=>true,fun j h1 _=>absurd h1 (by simp),?_⟩;cases ds' with
  | nil=>unfold Reps at h';subst h';cases ry;simp
  | cons d r=>unfold Reps at h';obtain⟨_,_,rfl,_⟩:=h';cases ry;simp
 | d::ds,ds',A,xs,ys,us,vs,h,h',rx,ry,pp,pp',hu=>by
  unfold Reps at h;obtain⟨x,r,rfl,h1,h2⟩:=h;cases rx with
  | cons rx rxs =>
   cases ds' with
   | nil =>
    unfold Reps at h';subst h';cases ry;exact⟨fun _=>true,fun j _ h2=>absurd h2 (by simp),by simp⟩
   | cons d' ds' =>
    unfold Reps at h';obtain⟨y,r',rfl,h1',h2'⟩:=h';cases ry with
    | cons ry rys =>
     unfold DV.pls at pp pp';rw [ax] at pp pp';unfold DV.dps at hu;obtain⟨b,hb,ib⟩:=Ct I d d' A h1 h1' rx ry pp.1 pp'.1 (by first|lia|omega);obtain⟨e,he,ie⟩:=rc I ds ds' A h2 h2' rxs rys pp.2 pp'.2 (by first|lia|omega);refine⟨fun j=>match j with|0=>b|j+1=>e j,fun j=>?_,?_⟩
     ·cases j with
      | zero=>exact fun _ _=>hb
      | succ j=>exact fun q1 q2=>he j (by simpa using q1) (by simpa using q2)
     ·rw [aJ,aJ,Nat.succ_min_succ];have q:∀ n,(List.range (n+1)).all (fun j=>match j with|0=>b|j+1=>e j)=(b && (List.range n).all e):=fun n=>all_cons;rw [q];have q2:∀ n m:Nat,(n+1 == m+1)=(n == m):=fun n m=>by
       rw [aS];simp
      rw [q2,Bool.and_assoc,ax,ib,ie,List.cons.injEq]
end
def Ag(K:Frag)(A:Around)(neg:Bool):R2:=fun x y H Q=>∃ ds ds',Rep K H (.tup ds) x/\Rep K H (.tup ds') y/\DV.pls ds=true/\DV.pls ds'=true/\A.units+DV.dps ds+2<cLine /\
 ∀ b,(b=true↔ds=ds')->Q (.bl (if neg then !b else b)) H
theorem yM:OpR X (compareOp .Eq) (Ag X.K X.A false):=by
 intro pins s σ H x y u v Q I rx ry h;obtain⟨ds,ds',h1,h2,p1,p2,hu,q⟩:=h;unfold Rep at h1 h2;obtain⟨a,vs,rfl,t1,r1⟩:=h1;obtain⟨a',vs',rfl,t2,r2⟩:=h2;cases rx;cases ry;obtain⟨its,rv,p,_⟩:=I.tuple t1;obtain⟨its',rv',p',_⟩:=I.tuple t2;obtain⟨f,hf,hi⟩:=rc I ds ds' X.A.in1 r1 r2 rv rv' p1 p2 (by show X.A.units+1+_+1<_;(first|lia|omega));refine SeqAt.RcAt.tuples p p' (by first|lia|omega) (e:=f) (fun j h1 h2=>?_) _ _ _ _ ⟨.bl _,H,I,rfl,q _ ?_⟩
 ·have q:=hf j (by simpa using h1) (by simpa using h2);simpa using q
 ·simp only [af];exact hi
theorem yJ:OpR X (compareOp .NotEq) (Ag X.K X.A true):=by
 intro pins s σ H x y u v Q I rx ry h;obtain⟨ds,ds',h1,h2,p1,p2,hu,q⟩:=h;unfold Rep at h1 h2;obtain⟨a,vs,rfl,t1,r1⟩:=h1;obtain⟨a',vs',rfl,t2,r2⟩:=h2;cases rx;cases ry;obtain⟨its,rv,p,_⟩:=I.tuple t1;obtain⟨its',rv',p',_⟩:=I.tuple t2;obtain⟨f,hf,hi⟩:=rc I ds ds' X.A.in1 r1 r2 rv rv' p1 p2 (by show X.A.units+1+_+1<_;(first|lia|omega));refine SeqAt.RcNeAt.tuples p p' (by first|lia|omega) (e:=f) (fun j h1 h2=>?_) _ _ _ _ ⟨.bl _,H,I,rfl,q _ ?_⟩
 ·have q:=hf j (by simpa using h1) (by simpa using h2);simpa using q
 ·simp only [af];exact hi
theorem sQ(bs:List Bool):(List.range bs.length).all (fun j=>bs.getD j false)=bs.all id:=by
 induction bs with
 | nil=>rfl
 | cons b r ih =>
  rw [aJ,all_cons,b8];exact congrArg (b && ·) ih
theorem vB(hc:X.calm=true):CallR X (.builtin "all") (fun xs H Q=>∃ p,∃ bs:List Bool,xs=[.ref p]/\SqL X.K H p (bs.map V.bl)/\Q (.bl (bs.all id)) H):=by
 intro pins s σ H xs us Q I rv h;obtain⟨p,bs,rfl,hp,q⟩:=h;obtain⟨u,rfl,ru⟩:=rv.one;cases ru;obtain⟨its,rv',pl,_⟩:=I.list hp;refine call_all_walk (wpAny_pyIter_list pl.isList ?_);have e:∀ b o,s.heap.get? b=some o->(s.heap.push { cls:=.type "list_iterator",data:=.fields #[.ref p,.int 0 0] }).get? b=some o:=fun b o e=>Heap.get?_push_of_some _ e;have hne:p≠s.heap.objs.size:=by
  obtain⟨o,ho,_⟩:=pl.isList;exact aA (Heap.lt_size ho)
 have lb:bs.length=its.length:=by rw [← rv'.length,aH]
 refine⟨_,_,_,_,_,_,fun j=>bs.getD j false,rfl,Walks.list (A:=X.A.in1) (I.ok.hd hc) _ p hne its.toArray,⟨⟨_,Heap.get?_push_size _ rfl,rfl,rfl⟩,pl.isList.at fun o ho=>e _ o ho⟩,?_,fun h' tk hk=>?_⟩
 ·intro i v s Q E hv hq;have hv':its[i]? = some v:=by simpa using hv
  have hi:i<bs.length:=by
   rw [lb];exact (av.mp hv').1
  obtain⟨u,hu,ru⟩:=rv'.get (i:=i) (x:=.bl bs[i]) (by simp [hi]);rw [hv'] at hu;cases hu;cases ru;have:bs.getD i false=bs[i]:=by simp [List.getD,hi]
  have hq:Q (bs.getD i false) s:=hq;rw [this] at hq;exact wpAny_truthy_bool hq
 ·refine⟨.bl (bs.all id),H,I.kept (t':=tk) fun b o ho=>hk b o ?_ (e b o ho),?_,q⟩
  ·simp only [am];exact aA (Heap.lt_size ho)
  ·show Value.bool _=_;rw [← sQ,lb];simp
end
end L2
namespace L2
open PySem PySem.Spec PyProof.Rows
structure Def (P:Program)(w:World)(K:Frag)(mg:Str->Option Value)(base:Heap)(x:Str)(k:Nat)(ps:List Str)(sp:Sp):Prop where
 ex:∃ f fd,FnOk P w K mg base pA k f fd ps sp/\mg x=some (.ref f)/\PySem.W.keepIn K (.ref f)=true/\Binds K fd ps []
theorem Def.of{P:Program}{w:World}{K:Frag}{mg:Str->Option Value}{base:Heap}{x q:Str}{k:Nat}{ps:List Str}{sp:Sp}{st:Stmt}{f:Addr}{fd:FuncData}(F:Fun K x q st f fd)(m:mg x=some (.ref f))(b:Binds K fd ps [])
  (ok:FnOk P w K mg base pA k f fd ps sp):Def P w K mg base x k ps sp:=⟨f,fd,ok,m,F.kp,b⟩
theorem oJ{X:Cx}{e:Expr}{es:List Expr}{t:TA}{x:Str}{p pos:Pos}{j k:Nat}{ps:List Str}{sp:Sp}(g:Def X.prog X.w X.K X.mg X.base x j ps sp)(hr:Room k X.A)(ha:PA X (e::es) t)(hjk:j<=k:=by first|decide|omega|exact aj _)(hg:Gl X x:=by rfl)
  (hdb:(x == ("__debug__" : Str))=false:=by decide) (he:starEach (e::es) X.env=(false,eval e X.env)::starEach es X.env:=by rfl) (hpl:(backTo pos (starEach es X.env)).any (·.1)=false:=by rfl) :
  PE X (.Call (.Name x p) (e::es) [] pos) (mC sp [] E0 t):=by
 obtain⟨f,fd,F,m,kp,b⟩:=g.ex;exact rS F (hr.mono hjk) hg m kp b .nil uH ha hdb he hpl
structure Bl (mg:Str->Option Value):Prop where
 len:mg "len" = none
 range:mg "range" = none
 all:mg "all" = none
 any:mg "any" = none
 abs:mg "abs" = none
 int:mg "int" = none
 bool:mg "bool" = none
 str:mg "str" = none
 list:mg "list" = none
 tuple:mg "tuple" = none
 dict:mg "dict" = none
 isinstance:mg "isinstance" = none
 enumerate:mg "enumerate" = none
 reversed:mg "reversed" = none
 sorted:mg "sorted" = none
 max:mg "max" = none
 min:mg "min" = none
 sum:mg "sum" = none
 zip:mg "zip" = none
structure Sm (f:Addr)(H H':Hp):Prop where
 app:∀ b o,b≠f->H b=some o->H' b=some o
 key:∀ l r,H f=some (.lst (.ref l::r))->∃ r',H' f=some (.lst (.ref l::r'))
instance {f:Addr}{H H':Hp}:CoeFun (Sm f H H') (fun _=>∀ b o,b≠f->H b=some o->H' b=some o):=⟨Sm.app⟩
theorem Sm.refl{f:Addr}(H:Hp):Sm f H H:=⟨fun _ _ _ h=>h,fun l r h=>⟨r,h⟩⟩
theorem Sm.trans{f:Addr}{H H1 H2:Hp}(a:Sm f H H1)(b:Sm f H1 H2):Sm f H H2:=⟨fun c o n h=>b.app c o n (a.app c o n h),fun l r h=>by
 obtain⟨r1,h1⟩:=a.key l r h;exact b.key l r1 h1⟩
theorem Same.sm{f:Addr}{H H':Hp}(h:Same H H'):Sm f H H':=⟨fun b o _ e=>h b o e,fun l r e=>⟨r,h _ _ e⟩⟩
theorem Sm.new{f p:Addr}{H:Hp}(h:H p=none)(o:HO):Sm f H (jr H p o):=⟨fun b u _ q=>by rw [jh (jo q h)];exact q,fun l r q=>⟨r,by rw [jh (jo q h)];exact q⟩⟩
theorem Same.new{p:Addr}{H:Hp}(h:H p=none)(o:HO):Same H (jr H p o):=fun b u q=>by rw [jh (jo q h)];exact q
theorem Sm.free{f:Addr}{H H':Hp}(e:Sm f H H'){l:Addr}(hl:l≠f)(h:H' l=none):H l=none:=by
 cases q:H l with
 | none=>rfl
 | some o =>
  rw [e.app l o hl q] at h;cases h
def Cz(Pv:Nat->St->List V->Hp->Prop)(n i:Nat)(τ:St)(ys:List V)(v:V)(H:Hp):Prop :=
 ∃ m',m'<n-i/\m'=n-(i+1)/\i+1<=n/\(ys++[v]).length=i+1/\Pv (i+1) τ (ys++[v]) H
theorem CT{Pv:Nat->St->List V->Hp->Prop}{n i:Nat}{τ:St}{ys:List V}{v:V}{H:Hp}(hi:i<n)(hl:ys.length=i)(p:Pv (i+1) τ (ys++[v]) H):Cz Pv n i τ ys v H :=
 ⟨n-(i+1),by first|lia|omega,rfl,hi,by rw [aF,bK,hl],p⟩
theorem rg{lo:Int}{n:Nat}{g:TG}{te:TE}{Q:VK}{σ:St}{H:Hp}(hn:n<=sizeLine)(Pv:Nat->St->List V->Hp->Prop)(h0:Pv 0 σ [] H)
  (hs:∀ i τ ys H,i<n->ys.length=i->Pv i τ ys H->g (.int (lo+i)) τ H fun τ2 H2=>te τ2 H2 fun v H3=>Cz Pv n i τ2 ys v H3)
  (hd:∀ τ ys H D,ys.length=n->Pv n τ ys H->H D=none->Q (.ref D) (jr H D (.lst ys))) :
  vN (zK lo n) g zN te σ Q H:=by
 refine⟨fun i m τ ys H=>m=n-i/\i<=n/\ys.length=i/\Pv i τ ys H,⟨n,by simp,bq _,rfl,h0⟩,?_⟩;rintro i m τ ys H ⟨rfl,hi,hl,p⟩;by_cases hlt:i<n
 ·refine .inr ⟨hlt,by first|lia|omega,fun x H' y=>?_⟩;obtain⟨e,y⟩:=y;subst e y;exact hs i τ ys _ hlt hl p
 ·have e:i=n:=by first|lia|omega
  subst e;exact .inl ⟨aj _,fun D hD=>hd τ ys H D hl p hD⟩
end L2
namespace L2
open PySem
theorem my:bootBuiltins "len" = some (.builtin "len"):=by decide +kernel
theorem zq:bootBuiltins "abs" = some (.builtin "abs"):=by decide +kernel
theorem vJ:bootBuiltins "all" = some (.builtin "all"):=by decide +kernel
theorem zp:bootBuiltins "any" = some (.builtin "any"):=by decide +kernel
theorem jq:bootBuiltins "isinstance" = some (.builtin "isinstance"):=by decide +kernel
theorem vI:bootBuiltins "int" = some (.type "int"):=by decide +kernel
theorem ph:bootBuiltins "bool" = some (.type "bool"):=by decide +kernel
theorem vH:bootBuiltins "str" = some (.type "str"):=by decide +kernel
theorem kP:bootBuiltins "list" = some (.type "list"):=by decide +kernel
theorem lU:bootBuiltins "tuple" = some (.type "tuple"):=by decide +kernel
end L2
namespace L2
open PySem PySem.Spec PyProof.Rows
def Bk(t u:TS):TS:=fun D σ H=>∃ R:St->Hp->Prop,t { D with nx:=R } σ H/\∀ σ H,R σ H->u D σ H
theorem lI{X:Cx}{st:Stmt}{more:List Stmt}{t u:TS}(h1:PS X st t)(h2:PSs X more u):PSs X (st::more) (Bk t u):=by
 intro pins s σ H D I h;obtain⟨R,a,b⟩:=h;refine wpAny_execs_cons (jv (h1 pins s σ H { D with nx:=R } I a) fun f s1 q=>?_);cases f with
 | next =>
  obtain⟨σ1,H1,I1,r1⟩:=q;exact h2 pins s1 σ1 H1 D I1 (b σ1 H1 r1)
 | brk=>exact q
 | cont=>exact q
 | ret v=>exact q
end L2
namespace L2
open PySem PySem.Spec PyProof.Rows
section
variable{X:Cx}
theorem qv(K:Frag)(hK:X.K=K:=by rfl):IxR X (yv K):=hK ▸ ix_list
theorem tD(K:Frag)(hK:X.K=K:=by rfl):CallR X (.builtin "len") (fun xs H Q=>∃ p ys,xs=[.ref p]/\(SqL K H p ys\/SqT K H p ys)/\Q (.int ys.length) H):=hK ▸ pe
theorem AO(K:Frag)(hc:X.calm=true:=by rfl)(hK:X.K=K:=by rfl):CallR X (.builtin "all") (fun xs H Q=>∃ p,∃ bs:List Bool,xs=[.ref p]/\SqL K H p (bs.map V.bl)/\Q (.bl (bs.all id)) H):=hK ▸ vB hc
theorem u7(K:Frag)(hK:X.K=K:=by rfl):CallR X (.type "list") (fun xs H Q=>∃ p ys,xs=[.ref p]/\(SqL K H p ys\/SqT K H p ys)/\∀ l,H l=none->Q (.ref l) (jr H l (.lst ys))):=hK ▸ pc
theorem CQ(K:Frag){a:Expr}{ta:TE}(ha:PE X a ta)(he:∀ whole,isTrue a X.env whole=(do let v ← whole;standAt a.pos;holding [v] (truthy v)))(hK:X.K=K:=by rfl) :
  PT X a (fun σ H Q=>ta σ H fun x H'=>∃ k,zA K x H' k/\Q k H'):=hK ▸ pR ha he
def Ah(K:Frag)(neg:Bool):R2:=fun x y H Q=>∃ ds ds',Rep K H (.tup ds) x/\Rep K H (.tup ds') y/\DV.pls ds=true/\DV.pls ds'=true/\DV.dps ds<=60/\∀ b,(b=true↔ds=ds')->Q (.bl (if neg then !b else b)) H
theorem C0(K:Frag){k:Nat}(hr:Room k X.A)(hK:X.K=K:=by rfl):OpR X (compareOp .Eq) (Ah K false):=by
 subst hK;intro pins s σ H x y u v Q I rx ry h;obtain⟨ds,ds',h1,h2,p1,p2,hu,q⟩:=h;exact yM pins s σ H x y u v Q I rx ry ⟨ds,ds',h1,h2,p1,p2,by have:=hr.units;(first|lia|omega),q⟩
theorem CU(K:Frag){k:Nat}(hr:Room k X.A)(hK:X.K=K:=by rfl):OpR X (compareOp .NotEq) (Ah K true):=by
 subst hK;intro pins s σ H x y u v Q I rx ry h;obtain⟨ds,ds',h1,h2,p1,p2,hu,q⟩:=h;exact yJ pins s σ H x y u v Q I rx ry ⟨ds,ds',h1,h2,p1,p2,by have:=hr.units;(first|lia|omega),q⟩
end
end L2
namespace Fr
open L2
def cp(t b:Int):Int:=((Int.gcd t b:Nat):Int)
def part(t b:Int):Int:=if b<0 then -cp t b else cp t b
def top(t b:Int):Int:=t.fdiv (part t b)
def qq(t b:Int):Int:=b.fdiv (part t b)
theorem vi(a b:Int):Int.gcd b (a.fmod b)=Int.gcd a b:=by
 rw [dl,Int.gcd_sub_mul_left_right,Int.gcd_comm]
theorem sq(a b:Int)(h:b≠0):(a.fmod b).natAbs<b.natAbs:=by
 rcases dL h with hb|hb
 ·have h1:=dM (-a) (b:=-b) (by first|lia|omega);have h2:=dj (-a) (b:=-b) (by first|lia|omega);have e:(-a).fmod (-b) = -(a.fmod b):=by
   rw [dl,dl,Int.neg_fdiv_neg,Int.neg_mul]
   (first|lia|omega)
  (first|lia|omega)
 ·have h1:=dM a hb;have h2:=dj a hb
  (first|lia|omega)
theorem zm{t b:Int}(h:b≠0):0<cp t b:=by
 unfold cp;have:0<Int.gcd t b:=dG (by rw [Ne,dF];exact fun z=>h z.2)
 (first|lia|omega)
theorem AH{t b:Int}(h:b≠0):(cp t b).natAbs<=b.natAbs:=by
 unfold cp;rw [bg];exact Nat.le_of_dvd (by first|lia|omega) (Nat.gcd_dvd_right _ _)
theorem rV{t b:Int}(h:b≠0):part t b≠0:=by
 have:=zm (t:=t) h;unfold part;split <;> (first|lia|omega)
theorem rW{t b:Int}(h:b≠0):(part t b).natAbs<=b.natAbs:=by
 have:=AH (t:=t) h;unfold part;split
 ·rw [Int.natAbs_neg];exact this
 ·exact this
theorem of{p t' b':Int}(hp:p≠0)(hb:0<b')(hc:Int.gcd t' b'=1):top (p*t') (p*b')=t'/\qq (p*t') (p*b')=b':=by
 have e:part (p*t') (p*b')=p:=by
  unfold part cp;rw [Int.gcd_mul_left,hc,Nat.mul_one];rcases dL hp with h|h
  ·rw [if_pos (Int.mul_neg_of_neg_of_pos h hb)]
   (first|lia|omega)
  ·rw [if_neg (Int.not_lt.mpr (Int.le_of_lt (Int.mul_pos h hb)))]
   (first|lia|omega)
 unfold top qq;rw [e];exact⟨da _ hp,da _ hp⟩
theorem ex{t b:Int}(h:b≠0):∃ p t' b',p≠0/\0<b'/\Int.gcd t' b'=1/\t=p*t'/\b=p*b':=by
 have g0:0<Int.gcd t b:=dG (by rw [Ne,dF];exact fun z=>h z.2);obtain⟨t1,e1⟩:=Int.gcd_dvd_left t b;obtain⟨b1,e2⟩:=Int.gcd_dvd_right t b;have hc:Int.gcd t1 b1=1:=by
  have q:Int.gcd ((Int.gcd t b:Int)*t1) ((Int.gcd t b:Int)*b1)=Int.gcd t b:=by rw [← e1,← e2]
  rw [Int.gcd_mul_left,bg] at q;exact Nat.eq_of_mul_eq_mul_left g0 (by first|lia|omega)
 have g1:(0:Int)<(Int.gcd t b:Int):=by first|lia|omega
 by_cases hb:b<0
 ·refine⟨-(Int.gcd t b:Int),-t1,-b1,by first|lia|omega,?_,by rw [Int.gcd_neg,Int.neg_gcd];exact hc,by rw [Int.neg_mul_neg];exact e1,by rw [Int.neg_mul_neg];exact e2⟩;rcases dO b1 0 with z|z|z
  ·(first|lia|omega)
  ·rw [z,Int.mul_zero] at e2
   (first|lia|omega)
  ·have:=Int.mul_pos g1 z
   (first|lia|omega)
 ·refine⟨(Int.gcd t b:Int),t1,b1,by first|lia|omega,?_,hc,e1,e2⟩;rcases dO b1 0 with z|z|z
  ·have:=Int.mul_neg_of_pos_of_neg g1 z
   (first|lia|omega)
  ·rw [z,Int.mul_zero] at e2
   (first|lia|omega)
  ·exact z
theorem low{t b:Int}(h:b≠0):0<qq t b/\top t b*b=t*qq t b/\Int.gcd (top t b) (qq t b)=1:=by
 obtain⟨p,t',b',hp,hb,hc,rfl,rfl⟩:=ex (t:=t) h;have e:=of hp hb hc;rw [e.1,e.2];refine⟨hb,?_,hc⟩;rw [Int.mul_left_comm,Int.mul_assoc]
theorem qG{t b:Int}(h:b≠0):(top t b).natAbs<=t.natAbs/\(qq t b).natAbs<=b.natAbs:=by
 obtain⟨p,t',b',hp,hb,hc,rfl,rfl⟩:=ex (t:=t) h;have e:=of hp hb hc;rw [e.1,e.2,bX,bX];have:0<p.natAbs:=by first|lia|omega
 exact⟨cn _ this,cn _ this⟩
theorem self{t b:Int}(hb:0<b)(hc:Int.gcd t b=1):top t b=t/\qq t b=b:=by
 have:=of (p:=1) (t':=t) (b':=b) (by decide) hb hc;rw [cO,cO] at this;exact this
end Fr
namespace L2
open PySem PySem.Spec PyProof.Rows
def zz(K:Frag)(H:Hp)(x:V)(t:Value):Prop:=TyOf K H x t\/(∃ a xs,x = .ref a/\SqT K H a xs/\t = .type "tuple")\/(∃ a xs,x = .ref a/\SqL K H a xs/\t = .type "list")
section
variable{X:Cx}{pins:List (Addr×Obj)}{σ:St}{H:Hp}{s:Shared}{A:Around}{E:Value->Shared->Prop}{Q:Value->Shared->Prop}
theorem y7{x:V}{u t c:Value}{b:Bool}(I:Inv X pins σ H s)(rx:RelV x u)(ty:zz X.K H x t)(e:PySem.W.kitOne X.K t c=some b)(h:∀ tk,Q (.bool b) { s with toks:=tk }) :
  wpAny (model X.prog X.w) A (call (.builtin "isinstance") [u,c]) Q E s:=by
 rcases ty with ty|⟨a,xs,rfl,hq,rfl⟩|⟨a,xs,rfl,hq,rfl⟩
 ·exact tI I rx ty e h
 ·cases rx;obtain⟨its,rv,p,_⟩:=I.tuple hq;obtain⟨o,ho,hc,_⟩:=p;exact PySem.W.kia_one PySem.W.kitx_tuple I.kIn ⟨o,ho,hc⟩ e (fun z=>nomatch z) h
 ·cases rx;obtain⟨its,rv,p,_⟩:=I.list hq;obtain⟨o,ho,hc,_⟩:=p.isList;exact PySem.W.kia_one PySem.W.kitx_list I.kIn ⟨o,ho,hc⟩ e (fun z=>nomatch z) h
theorem wQ{x:V}{u t:Value}{b:Bool}{tp:Addr}{dd:Option Addr}{its:List Value}{n:Nat}{sl:Array (Option Value)}(I:Inv X pins σ H s)(rx:RelV x u)(ty:zz X.K H x t)(hs:∀ C,t ≠ .ref C)
  (htp:s.heap.get? tp=some ⟨.type "tuple",dd,.seq its.toArray n,sl⟩) (e:PySem.W.kitAny X.K t its=some b) (h:∀ tk,Q (.bool b) { s with toks:=tk }) :
  wpAny (model X.prog X.w) A (call (.builtin "isinstance") [u,.ref tp]) Q E s:=by
 rcases ty with ty|⟨a,xs,rfl,hq,rfl⟩|⟨a,xs,rfl,hq,rfl⟩
 ·cases ty with
  | non=>cases (show u=Value.none from rx);exact PySem.W.kia_tup PySem.W.kitx_none I.kIn True.intro htp e (fun z=>nomatch z) h
  | bl y=>cases (show u=Value.bool y from rx);exact PySem.W.kia_tup PySem.W.kitx_bool I.kIn True.intro htp e (fun z=>nomatch z) h
  | int i=>obtain⟨t,q⟩:=(show ∃ t,u=Value.int i t from rx);cases q;exact PySem.W.kia_tup PySem.W.kitx_int I.kIn True.intro htp e (fun z=>nomatch z) h
  | str y=>obtain⟨t,q⟩:=(show ∃ t,u=Value.str y t from rx);cases q;exact PySem.W.kia_tup PySem.W.kitx_str I.kIn True.intro htp e (fun z=>nomatch z) h
  | flt y=>obtain⟨t,q⟩:=(show ∃ t,u=Value.float y t from rx);cases q;exact PySem.W.kia_tup PySem.W.kitx_float I.kIn True.intro htp e (fun z=>nomatch z) h
  | @lst a xs ea =>
   cases (show u=Value.ref a from rx);obtain⟨_,_,n,_,h1⟩:=(show ObjOk X.prog X.w H s.heap a (.lst xs) from I.hok a _ ea);exact PySem.W.kia_tup PySem.W.kitx_list I.kIn ⟨_,h1,rfl⟩ htp e (fun z=>nomatch z) h
  | @frz a ob xs ea =>
   cases (show u=Value.ref a from rx);obtain⟨q1,_,_,n,_,h1⟩:=(show ObjOk X.prog X.w H s.heap a (.frz ob (.lst xs)) from I.hok a _ ea);exact PySem.W.kia_tup PySem.W.kitx_list I.kIn ⟨_,h1,rfl⟩ htp e (fun z=>nomatch z) h
  | @tup a xs ea =>
   cases (show u=Value.ref a from rx);obtain⟨its',rv,p,_⟩:=I.tuple (SqT.of ea);obtain⟨o,ho,hc,_⟩:=p;exact PySem.W.kia_tup PySem.W.kitx_tuple I.kIn ⟨o,ho,hc⟩ htp e (fun z=>nomatch z) h
  | @dK a kvs ea =>
   cases (show u=Value.ref a from rx);obtain⟨_,_,vs,_,p⟩:=(show ObjOk X.prog X.w H s.heap a (.dK kvs) from I.hok a _ ea);obtain⟨o,es,ep,h1,h2,_⟩:=p;exact PySem.W.kia_tup PySem.W.kitx_dict I.kIn ⟨o,h1,h2.1⟩ htp e (fun z=>nomatch z) h
  | @dT a kvs ea =>
   cases (show u=Value.ref a from rx);obtain⟨_,_,xs,_,o,es,ep,h1,h2,_⟩:=(show ObjOk X.prog X.w H s.heap a (.dT kvs) from I.hok a _ ea);exact PySem.W.kia_tup PySem.W.kitx_dict I.kIn ⟨o,h1,h2.1⟩ htp e (fun z=>nomatch z) h
  | ins=>exact absurd rfl (hs _)
 ·cases rx;obtain⟨its',rv,p,_⟩:=I.tuple hq;obtain⟨o,ho,hc,_⟩:=p;exact PySem.W.kia_tup PySem.W.kitx_tuple I.kIn ⟨o,ho,hc⟩ htp e (fun z=>nomatch z) h
 ·cases rx;obtain⟨its',rv,p,_⟩:=I.list hq;obtain⟨o,ho,hc,_⟩:=p.isList;exact PySem.W.kia_tup PySem.W.kitx_list I.kIn ⟨o,ho,hc⟩ htp e (fun z=>nomatch z) h
end
section
variable{X:Cx}
theorem y8(K:Frag)(hK:X.K=K:=by rfl):CallR X (.builtin "isinstance") (fun xs H Q=>∃ x n t b,xs=[x,.ty n]/\zz K H x t/\PySem.W.kitOne K t (.type n)=some b/\Q (.bl b) H):=by
 subst hK;intro pins s σ H xs us Q I rv h;obtain⟨x,n,t,b,rfl,ty,e,q⟩:=h;obtain⟨u,v,rfl,r1,r2⟩:=rv.two;cases r2;exact y7 I r1 ty e fun tk=>⟨.bl b,H,I.tok tk,rfl,q⟩
theorem rK:∀{ns:List String} {us:List Value},Vals (ns.map V.ty) us->us=ns.map Value.type
 | [],_,.nil=>rfl
 | n::ns,_,.cons r t=>by
  have r':_=Value.type n:=r;rw [r',rK t];rfl
theorem BU(K:Frag)(hK:X.K=K:=by rfl):CallR X (.builtin "isinstance") (fun xs H Q=>∃ x tp t b,∃ ns:List String,xs=[x,.ref tp]/\zz K H x t/\(∀ C,t ≠ .ref C)/\H tp=some (.tup (ns.map V.ty))/\PySem.W.kitAny K t (ns.map Value.type)=some b/\Q (.bl b) H):=by
 subst hK;intro pins s σ H xs us Q I rv h;obtain⟨x,tp,t,b,ns,rfl,ty,hs,htp,e,q⟩:=h;obtain⟨u,v,rfl,r1,r2⟩:=rv.two;cases r2;obtain⟨its,rv',p,_⟩:=I.tuple (SqT.of htp);obtain⟨⟨cl,dd,dt,sl⟩,ho,hc,n,hd⟩:=p;have hc':cl = .type "tuple" := hc;have hd':dt = .seq its.toArray n:=hd;subst hc' hd';refine wQ I r1 ty hs ho ?_ fun tk=>⟨.bl b,H,I.tok tk,rfl,q⟩;rw [rK rv'];exact e
theorem Co(K:Frag)(hK:X.K=K:=by rfl):IxR X (AY K):=hK ▸ ix_seq
end
end L2
namespace L2
open PySem PySem.Spec PyProof.Rows
mutual
def DV.wd:DV->Nat
 | .tup ds=>max ds.length (DV.wds ds)
 | .lst ds=>max ds.length (DV.wds ds)
 | _=>0
def DV.wds:List DV->Nat
 | []=>0
 | d::ds=>max (DV.wd d) (DV.wds ds)
end
theorem rJ:∀{ds:List DV} {d:DV},d∈ds->d.wd<=DV.wds ds/\d.dp<=DV.dps ds
 | [],_,h=>absurd h ah
 | e::ds,d,h=>by
  unfold DV.wds DV.dps;rcases ai.mp h with rfl|h
  ·exact⟨Nat.le_max_left _ _,Nat.le_max_left _ _⟩
  ·have:=rJ h
   (first|lia|omega)
theorem Reps.get{K:Frag}{H:Hp}:∀{ds:List DV} {vs:List V} {i:Nat} {v:V},Reps K H ds vs->vs[i]? = some v->∃ d,ds[i]? = some d/\Rep K H d v
 | [],vs,i,v,h,e=>by
  unfold Reps at h;subst h;simp at e
 | d::ds,vs,i,v,h,e=>by
  unfold Reps at h;obtain⟨v',r,rfl,h1,h2⟩:=h;cases i with
  | zero =>
   simp at e;subst e;exact⟨d,rfl,h1⟩
  | succ i =>
   simp at e;obtain⟨d',a,b⟩:=Reps.get h2 e;exact⟨d',by simpa using a,b⟩
def SqX(K:Frag)(tt:String)(H:Hp)(a:Addr)(xs:List V):Prop:=(tt = "tuple" /\ SqT K H a xs)\/(tt = "list" /\ SqL K H a xs)
theorem SqX.same{K:Frag}{tt:String}{H H':Hp}{a:Addr}{xs:List V}(h:SqX K tt H a xs)(e:Same H H'):SqX K tt H' a xs:=h.imp (fun z=>⟨z.1,z.2.same e⟩) fun z=>⟨z.1,e.seq z.2⟩
theorem SqX.len{K:Frag}{tt:String}{H:Hp}{a:Addr}{xs:List V}(h:SqX K tt H a xs):SqL K H a xs\/SqT K H a xs:=h.elim (fun z=>.inr z.2) fun z=>.inl z.2
theorem SqX.ty{K:Frag}{tt:String}{H:Hp}{a:Addr}{xs:List V}(h:SqX K tt H a xs):zz K H (.ref a) (.type tt):=h.elim (fun z=>.inr (.inl ⟨a,xs,rfl,z.2,by rw [z.1]⟩)) fun z=>.inr (.inr ⟨a,xs,rfl,z.2,by rw [z.1]⟩)
theorem SqX.ix{K:Frag}{tt:String}{H:Hp}{a:Addr}{xs:List V}{i:Int}{v:V}{Q:VK}(h:SqX K tt H a xs)(e:tV xs i=some v)(q:Q v H):AY K (.ref a) (.int i) H Q :=
 h.elim (fun z=>.inr (.inl ⟨a,xs,i,v,rfl,rfl,z.2,e,q⟩)) fun z=>.inl ⟨a,xs,i,v,rfl,rfl,z.2,e,q⟩
theorem SqX.kit{K:Frag}{tt:String}{H:Hp}{a:Addr}{xs:List V}(h:SqX K tt H a xs):PySem.W.kitAny K (.type tt) [.type "list",.type "tuple"]=some true/\(∃ b,PySem.W.kitOne K (.type tt) (.type "list")=some b)/\∃ b,PySem.W.kitOne K (.type tt) (.type "tuple")=some b:=by
 rcases h with⟨rfl,_⟩|⟨rfl,_⟩
 ·exact⟨rfl,⟨_,rfl⟩,⟨_,rfl⟩⟩
 ·exact⟨rfl,⟨_,rfl⟩,⟨_,rfl⟩⟩
def Cb(K:Frag)(x:V):Prop:=∃ t bb,(∀ H,zz K H x t)/\(∀ C,t ≠ .ref C)/\PySem.W.kitAny K t [.type "list",.type "tuple"]=some false/\PySem.W.kitOne K t (.type "bool")=some bb/\yh x x=true
theorem sN{K:Frag}{H:Hp}{d:DV}{x y:V}(hx:Rep K H d x)(hy:Rep K H d y):(x=y/\Cb K x) \/
  ∃ tt a a' xs ys ds,x = .ref a/\y = .ref a'/\SqX K tt H a xs/\SqX K tt H a' ys/\Reps K H ds xs/\Reps K H ds ys/\d.dp=DV.dps ds+1/\DV.wds ds<=d.wd/\ds.length<=d.wd:=by
 cases d with
 | int i=>unfold Rep at hx hy;subst hx hy;exact .inl ⟨rfl,.type "int",false,fun H=>.inl (.int _),nofun,rfl,rfl,rfl⟩
 | str i=>unfold Rep at hx hy;subst hx hy;exact .inl ⟨rfl,.type "str",false,fun H=>.inl (.str _),nofun,rfl,rfl,rfl⟩
 | non=>unfold Rep at hx hy;subst hx hy;exact .inl ⟨rfl,.type "NoneType",false,fun H=>.inl .non,nofun,rfl,rfl,rfl⟩
 | bl i=>unfold Rep at hx hy;subst hx hy;exact .inl ⟨rfl,.type "bool",true,fun H=>.inl (.bl _),nofun,rfl,rfl,rfl⟩
 | tup ds =>
  unfold Rep at hx hy;obtain⟨a,xs,rfl,h1,h2⟩:=hx;obtain⟨a',ys,rfl,h1',h2'⟩:=hy;exact .inr ⟨"tuple",a,a',xs,ys,ds,rfl,rfl,.inl ⟨rfl,h1⟩,.inl ⟨rfl,h1'⟩,h2,h2',by rw [DV.dp],by rw [DV.wd];(first|lia|omega),by rw [DV.wd];(first|lia|omega)⟩
 | lst ds =>
  unfold Rep at hx hy;obtain⟨a,xs,rfl,h1,h2⟩:=hx;obtain⟨a',ys,rfl,h1',h2'⟩:=hy;exact .inr ⟨"list",a,a',xs,ys,ds,rfl,rfl,.inr ⟨rfl,h1⟩,.inr ⟨rfl,h1'⟩,h2,h2',by rw [DV.dp],by rw [DV.wd];(first|lia|omega),by rw [DV.wd];(first|lia|omega)⟩
end L2
namespace L2
open PySem PySem.Spec PyProof.Rows
section
variable{X:Cx}
def Aj(K:Frag):R2:=fun x y H Q=>∃ a b ys,x = .ref a/\y = .ref b/\SqT K H a []/\SqT K H b ys/\Q (.ref b) H
theorem AK(K:Frag)(hK:X.K=K:=by rfl):OpR X (binaryOp .Add) (Aj K):=by
 subst hK;intro pins s σ H x y u v Q I rx ry h;obtain⟨a,b,ys,rfl,rfl,h1,h2,q⟩:=h;cases rx;cases ry;obtain⟨its,rv,p,_⟩:=I.tuple h1;obtain⟨its2,rv2,p2,_⟩:=I.tuple h2;cases rv;obtain⟨⟨cls,dd,data,sl⟩,ho,hc,n,hd⟩:=id p;obtain⟨⟨cls2,dd2,data2,sl2⟩,ho2,hc2,n2,hd2⟩:=id p2;simp only at hc hd hc2 hd2;subst hc hd hc2 hd2;exact concat_meets ⟨_,ho,rfl⟩ ⟨_,ho2,rfl⟩ noFill_tuple_add seq_tuple_add PySem.F.slot_tuple_add PySem.F.entry_tuple_add (PySem.F.args_tuple_add_2 _ _)
  (tuple_addW0 a b ([]:List Value).toArray its2.toArray n n2 dd dd2 sl sl2 (by simp)) ⟨ho,ho2,⟨.ref b,H,I,rfl,q⟩⟩
def xE(K:Frag)(neg:Bool):R2:=fun x y H Q=>∃ ds ds',Rep K H (.lst ds) x/\Rep K H (.lst ds') y/\DV.pls ds=true/\DV.pls ds'=true/\DV.dps ds<=60/\∀ b,(b=true↔ds=ds')->Q (.bl (if neg then !b else b)) H
theorem B0(K:Frag){k:Nat}(hr:Room k X.A)(hK:X.K=K:=by rfl):OpR X (compareOp .Eq) (xE K false):=by
 subst hK;intro pins s σ H x y u v Q I rx ry h;obtain⟨ds,ds',h1,h2,p1,p2,hu,q⟩:=h;have hun:=hr.units;unfold Rep at h1 h2;obtain⟨a,vs,rfl,t1,r1⟩:=h1;obtain⟨a',vs',rfl,t2,r2⟩:=h2;cases rx;cases ry;obtain⟨its,rv,p,_⟩:=I.list t1;obtain⟨its',rv',p',_⟩:=I.list t2;obtain⟨f,hf,hi⟩:=rc I ds ds' X.A.in1 r1 r2 rv rv' p1 p2 (by show X.A.units+1+_+1<_;(first|lia|omega));by_cases hz:its.length=its'.length
 ·refine SeqAt.RcAt.lists p.isList p'.isList (by simpa using hz) (by first|lia|omega) (e:=f) (fun j h1 h2=>?_) _ _ _ _ ⟨.bl _,H,I,rfl,q _ ?_⟩
  ·have q:=hf j (by simpa using h1) (by simpa using h2);simpa using q
  ·simp only [af];rw [oR hz] at hi;exact hi
 ·refine SeqAt.RcAt.lists_lengths p.isList p'.isList (by simpa using hz) (by first|lia|omega) _ _ _ _ ⟨.bl false,H,I,rfl,q false ?_⟩;simp only [bH,false_iff];intro z;have l1:=r1.length;have l2:=r2.length;rw [z] at l1;exact hz (by rw [← rv.length,← rv'.length,← l1,← l2])
theorem BG(K:Frag){k:Nat}(hr:Room k X.A)(hK:X.K=K:=by rfl):OpR X (compareOp .NotEq) (xE K true):=by
 subst hK;intro pins s σ H x y u v Q I rx ry h;obtain⟨ds,ds',h1,h2,p1,p2,hu,q⟩:=h;have hun:=hr.units;unfold Rep at h1 h2;obtain⟨a,vs,rfl,t1,r1⟩:=h1;obtain⟨a',vs',rfl,t2,r2⟩:=h2;cases rx;cases ry;obtain⟨its,rv,p,_⟩:=I.list t1;obtain⟨its',rv',p',_⟩:=I.list t2;obtain⟨f,hf,hi⟩:=rc I ds ds' X.A.in1 r1 r2 rv rv' p1 p2 (by show X.A.units+1+_+1<_;(first|lia|omega));by_cases hz:its.length=its'.length
 ·refine SeqAt.RcNeAt.lists p.isList p'.isList (by simpa using hz) (by first|lia|omega) (e:=f) (fun j h1 h2=>?_) _ _ _ _ ⟨.bl _,H,I,rfl,q _ ?_⟩
  ·have q:=hf j (by simpa using h1) (by simpa using h2);simpa using q
  ·simp only [af];rw [oR hz] at hi;exact hi
 ·refine SeqAt.RcNeAt.lists_lengths p.isList p'.isList (by simpa using hz) (by first|lia|omega) _ _ _ _ ⟨.bl true,H,I,rfl,q false ?_⟩;simp only [bH,false_iff];intro z;have l1:=r1.length;have l2:=r2.length;rw [z] at l1;exact hz (by rw [← rv.length,← rv'.length,← l1,← l2])
end
end L2
namespace L2
open PySem PySem.Spec PyProof.Rows
def Pol(H:Hp)(v:V)(P:List Int)(B:Int):Prop:=∃ a t,v = .ref a/\H a=some (.tup [.ref t,.int B])/\H t=some (.tup (P.map V.int))
end L2
namespace L2
open PySem PySem.Spec PyProof.Rows
section
variable{X:Cx}{pins:List (Addr×Obj)}{σ:St}{H:Hp}{s:Shared}{h':Heap}
theorem Inv.turnedL{t':Nat}{fp:List Addr}(I:Inv X pins σ H s)(k:∀ b o,b ∉ fp->s.heap.get? b=some o->h'.get? b=some o)(hf:∀ b∈fp,kH X pins H b):Inv X pins σ H { s with heap:=h',toks:=t' }:=by
 have nit:∀ b u,H b=some u->b ∉ fp:=fun b u e z=>by rw [(hf b z).1] at e;cases e
 have hL:X.env.locals ∉ fp:=fun z=>(hf _ z).2.1 rfl;refine I.step (g':=s.gens) (d':=s.drawn) (ch:=fp) (fun b hb=>⟨(hf b hb).2.2.2.1,(hf b hb).2.1,(hf b hb).2.2.2.2.1,(hf b hb).2.2.2.2.2⟩) (fun b o _ _ hc e _=>k b o hc e) (fun b o _ _ hc e _=>⟨o.slots,k b o hc e⟩) (fun _ _ _ _ n=>n)
  (fun b o hc e=>⟨o,k b o hc e⟩) (fun _ _ e=>e) (fun _ _ _ e=>e) (fun b ps e=>⟨#[],by rw [e];simp⟩) (fun m ⟨o,es,ep,ho,r⟩=>⟨o,es,ep,k _ o hL ho,r⟩) (fun b u e=>?_) I.bare
 refine (I.hok b u e).stay (fun c v hc q=>k c v (hc.elim (fun z=>by rw [z];exact nit b u e) fun z=>nit c _ z) q) (fun _ q=>q) fun _ _ q=>q
end
section
variable{prog:Program}{w:World}{A:Around}{E:Value->Shared->Prop}{s:Shared}
theorem qS{it t:Addr}{i:Nat}{items:Array Value}{x:Value}{Q:Value->Shared->Prop}(hit:s.heap.IsTupleIter it t i)(ht:s.heap.IsTuple t items)(hx:items[i]? = some x)
  (hQ:∀ h',h'.IsTupleIter it t (i+1)->Heap.SameBut it s.heap h'->Q x { s with heap:=h' }):wpAny (model prog w) A (Builtin.SmallTypes.nextOf (.ref it)) Q E s:=by
 obtain⟨o,ho,hc,hd⟩:=id hit;obtain⟨ol,hol,_,nl,hdl⟩:=ht;unfold Builtin.SmallTypes.nextOf;refine wpAny_bind (wpAny_callSpecial?_slot (name:=Str.ofString "__next__") hit.typeIs F.slot_tuple_iterator_next (wpAny_call_entry F.slot_tuple_iterator_next hit.typeIs F.entry_tuple_iterator_next ?_ (F.args_tuple_iterator_next_1 _)));show wpAny _ _ (field (.ref it) 0 >>= _) _ _ s;refine wpAny_bind (wpAny_field ho hd (x:=.ref t) rfl ?_);show wpAny _ _ (if (Value.ref t == Value.none)=true then _ else _) _ _ s;rw [if_neg (show ¬ ((Value.ref t == Value.none)=true) from ao)];show wpAny _ _ (field (.ref it) 1 >>= _) _ _ s;refine wpAny_bind (wpAny_field ho hd (x:=.int i 0) rfl ?_);show wpAny _ _ (seqItems? (.ref t) >>= _) _ _ s;refine wpAny_bind (wpAny_seqItems hol hdl ?_);simp only [aX,hx];refine wpAny_bind (wpAny_setField ho hd (by simp) (wpAny_pure ⟨x,rfl,wpAny_pure (hQ _ ⟨_,Heap.get?_update_self _ ho (Obj.isFreed_of_fields (Obj.data_mapFields hd _)),(Obj.cls_mapFields ..).trans hc,by rw [Obj.data_mapFields hd];simp [rawInt]⟩ (Heap.SameBut.update ..))⟩))
theorem nZ{it t:Addr}{i:Nat}{items:Array Value}{Q:Value->Shared->Prop}(hh:A.handled=none)(hit:s.heap.IsTupleIter it t i)(ht:s.heap.IsTuple t items)(hx:items[i]? = none)
  (hE:∀ h' e,Heap.ExtBut it s.heap h'->(∃ o,h'.get? e=some o/\o.cls = .type "StopIteration")->E (.ref e) { s with heap:=h' }):wpAny (model prog w) A (Builtin.SmallTypes.nextOf (.ref it)) Q E s:=by
 obtain⟨o,ho,hc,hd⟩:=id hit;obtain⟨ol,hol,_,nl,hdl⟩:=ht;unfold Builtin.SmallTypes.nextOf;refine wpAny_bind (wpAny_callSpecial?_slot (name:=Str.ofString "__next__") hit.typeIs F.slot_tuple_iterator_next (wpAny_call_entry F.slot_tuple_iterator_next hit.typeIs F.entry_tuple_iterator_next ?_ (F.args_tuple_iterator_next_1 _)));show wpAny _ _ (field (.ref it) 0 >>= _) _ _ s;refine wpAny_bind (wpAny_field ho hd (x:=.ref t) rfl ?_);show wpAny _ _ (if (Value.ref t == Value.none)=true then _ else _) _ _ s;rw [if_neg (show ¬ ((Value.ref t == Value.none)=true) from ao)];show wpAny _ _ (field (.ref it) 1 >>= _) _ _ s;refine wpAny_bind (wpAny_field ho hd (x:=.int i 0) rfl ?_);show wpAny _ _ (seqItems? (.ref t) >>= _) _ _ s;refine wpAny_bind (wpAny_seqItems hol hdl ?_);simp only [aX,hx];refine wpAny_bind (wpAny_rule (wpAny_bind (wpAny_setField ho hd (by simp) ?_)));show wpAny _ _ (newExc (.type "StopIteration") [] >>= _) _ _ _;refine wpAny_bind ?_;simp only [newExc,newTuple];refine wpAny_bind (wpAny_newObj_type ?_ (by size_fits));refine wpAny_bind (m:=firstArgMember _ _) (wpAny_of_eq (a:=Value.none) (by first|rfl|(simp only [firstArgMember];rfl)) ?_);refine wpAny_newObj_type ?_ (by size_fits);simp only [raiseNew];refine wpAny_bind (wpAny_handled ?_);first|rw [show A.in1.handled=none from hh]|rw [hh]
 refine wpAny_bind (wpAny_pure (wpAny_throw ?_));exact hE _ _ (((Heap.SameBut.update ..).extBut.push _).push _) ⟨_,Heap.get?_push_size _ rfl,rfl⟩
end
theorem zi{prog:Program}{w:World}{A:Around}(hh:A.handled=none)(it l:Addr)(hne:l≠it)(items:Array Value):Draws prog w A it [it,l] items.size (fun i v=>items[i]? = some v) (fun i h=>h.IsTupleIter it l i/\h.IsTuple l items) where
 live:=fun _ _ st=>let ⟨o,ho,_⟩:=st.1;⟨o,ho⟩
 frame:=fun _ _ _ st hk=>⟨let ⟨o,ho,r⟩:=st.1;⟨o,hk it (by simp) o ho,r⟩,let ⟨o,ho,r⟩:=st.2;⟨o,hk l (by simp) o ho,r⟩⟩
 item:=fun i s Q E hi st hQ=>qS st.1 st.2 (x:=items[i]) (by simp [hi]) fun h' hit' hs'=>hQ _ h' s.toks (by simp [hi]) ⟨hit',let ⟨o,ho,r⟩:=st.2;⟨o,(hs'.2 l hne).trans ho,r⟩⟩ hs'
 done:=fun s Q E st hE=>nZ hh st.1 st.2 (by simp) hE
theorem tP(l:Addr)(items:Array Value)(n:Nat)(dct:Option Addr)(sl:Array (Option Value)) :
  Meets (Builtin.«enumerate.__new__» ⟨[.type "enumerate",.ref l],[]⟩) (fun _ R s=>s.heap.get? l=some { cls:=.type "tuple",dict:=dct,data:=.seq items n,slots:=sl } /\
   R (.ok (.ret (.ref (s.heap.push { cls:=.type "tuple_iterator",data:=.fields #[.ref l,.int 0 0] }).objs.size)))
    { s with heap:=(s.heap.push { cls:=.type "tuple_iterator",data:=.fields #[.ref l,.int 0 0] }).push { cls:=.type "enumerate",data:=.fields #[.none,.bool false,.ref s.heap.objs.size,rawInt 0,.none,.none] } }) :=
 .of_wp fun prog w A R s h=>by
  obtain⟨hp,g,d,tk,os⟩:=s;obtain⟨hl,h⟩:=h;have hsub:=sub_enumerate;have hL:Heap.IsTuple (Shared.heap ⟨hp,g,d,tk,os⟩) l items:=⟨_,hl,rfl,n,rfl⟩
  wp_walk using AutoSeq1.wpAny_loadPart' hl
  refine wpAny_stack_any fun st=>wpAny_pure ?_;split
  ·rename_i c _ _ _ _ _;cases (c == Value.type "enumerate") <;> (wp_walk using AutoSeq1.wpAny_loadPart' hl,wpAny_pyIter_tuple hL;exact⟨_,rfl,h⟩)
  ·wp_walk using AutoSeq1.wpAny_loadPart' hl,wpAny_pyIter_tuple hL;exact⟨_,rfl,h⟩
def A3(Sq:Hp->List V->Prop):It:=⟨fun i H=>∃ xs x,Sq H xs/\xs[i]? = some x,fun i H x H'=>∃ p v,x = .ref p/\H p=none/\H'=jr H p (.tup [.int i,v])/\∀ xs,Sq H xs->xs[i]? = some v,fun i H=>∃ xs,Sq H xs/\xs.length<=i⟩
theorem oi{X:Cx}{pins:List (Addr×Obj)}{σ:St}{H:Hp}{s:Shared}{h1 h2:Heap}{e it:Addr}{tk t2:Nat}{i:Nat}{x:V}{u:Value}(I:Inv X pins σ H s)(hf:∀ b∈[e,it],kH X pins H b)(le:e<s.heap.objs.size)(li:it<s.heap.objs.size)(ru:RelV x u)
  (hT:h1.get? s.heap.objs.size=some { cls:=.type "tuple",data:=.seq #[.int i tk,u] }) (hk:∀ b o,b≠e->b≠it->s.heap.get? b=some o->h1.get? b=some o) (hs:Heap.SameBut e h1 h2) :
  Inv X pins σ (jr H s.heap.objs.size (.tup [.int i,x])) { s with heap:=h2,toks:=t2 }/\∀ b∈[e,it],jr H s.heap.objs.size (.tup [.int i,x]) b=none:=by
 have lt:∀ b∈[e,it],b≠s.heap.objs.size:=fun b hb=>by
  rcases ai.mp hb with z|z
  ·rw [z];exact aA le
  ·rw [am.mp z];exact aA li
 have I1:Inv X pins σ (jr H s.heap.objs.size (.tup [.int i,x])) { s with heap:=s.heap.push { cls:=.type "tuple",data:=.seq #[.int i tk,u] },toks:=t2 } :=
  I.laid (t':=t2) (fun b u e=>Heap.get?_push_of_some _ e) (aj _) ⟨by show 2<=sizeLine;decide,[.int i tk,u],.cons ⟨tk,rfl⟩ (.cons ru .nil),⟨_,Heap.get?_push_size _ rfl,rfl,_,rfl⟩⟩
 have nn:∀ b∈[e,it],jr H s.heap.objs.size (.tup [.int i,x]) b=none:=fun b hb=>by
  rw [jh (lt b hb)];exact (hf b hb).1
 refine⟨Inv.turnedL (s:={ s with heap:=s.heap.push { cls:=.type "tuple",data:=.seq #[.int i tk,u] },toks:=t2 }) (t':=t2) (fp:=[e,it]) I1 (fun b o hb q=>?_) fun b hb=>⟨nn b hb,(hf b hb).2⟩,nn⟩;have be:b≠e:=fun z=>hb (by simp [z]);have bi:b≠it:=fun z=>hb (by simp [z]);refine (hs.2 b be).trans ?_;rcases Heap.get?_push_cases q with⟨z1,z2⟩|z
 ·rw [z1,z2];exact hT
 ·exact hk b o be bi z
theorem tQ{prog:Program}{w:World}{A:Around}{E:Value->Shared->Prop}{s:Shared}{e it l:Addr}{i:Nat}{items:Array Value}{old:Value}{Q:Option Value->Shared->Prop}(hh:A.handled=none)(he:IsEnum s.heap e it i old)(hit:s.heap.IsTupleIter it l i)(hl:s.heap.IsTuple l items)
  (hx:items[i]? = none) (hQ:∀ h',Heap.ExtBut it s.heap h'->Q none { s with heap:=h' }):wpAny (model prog w) A (pyNext (.ref e)) Q E s:=by
 have hT:s.TypeIs (.ref e) "enumerate" := ⟨_,he,rfl⟩;unfold pyNext;refine wpAny_bind (wpAny_attempt (wpAny_callSpecial?_slot (name:=Str.ofString "__next__") hT F.slot_enumerate_next (wpAny_call_entry F.slot_enumerate_next hT F.entry_enumerate_next ?_ (F.args_enumerate_next_1 _))));show wpAny _ _ (field (.ref e) 2 >>= _) _ _ _;refine wpAny_bind (wpAny_field he rfl (x:=.ref it) rfl ?_);refine wpAny_bind (nZ (A:=A.in1) hh hit hl hx fun h' x he' hx'=>?_);obtain⟨o,ho,hc⟩:=hx';exact wpAny_bind (wpAny_isInstance (T := "StopIteration") (b:=true) ⟨o,ho,hc⟩ isSubtype_stop (wpAny_pure (hQ _ he')))
theorem re{prog:Program}{w:World}{A:Around}{E:Value->Shared->Prop}{s:Shared}{l:Addr}{items:Array Value}{Q:Value->Shared->Prop}(hL:s.heap.IsTuple l items)
  (h:∀ h',IsEnum h' (s.heap.objs.size+1) s.heap.objs.size 0 .none->h'.IsTupleIter s.heap.objs.size l 0->h'.objs.size=s.heap.objs.size+2->(∀ b o,s.heap.get? b=some o->h'.get? b=some o)->Q (.ref (s.heap.objs.size+1)) { s with heap:=h' }) :
  wpAny (model prog w) A (call (.type "enumerate") [.ref l]) Q E s:=by
 obtain⟨⟨c,dct,dt,sl⟩,hl,hc,n,hd⟩:=hL;have hc':c = .type "tuple" := hc;have hd':dt = .seq items n:=hd;subst hc' hd';refine callType_new F.called_enumerate (by decide) (F.typeCall_enumerate_1 _) (F.newCall_enumerate_1 _) (fun obj=>F.args_object_init_2 obj _) F.entry_enumerate_new (tP l items n dct sl) ⟨hl,?_⟩;have hz:(s.heap.push { cls:=.type "tuple_iterator",data:=.fields #[.ref l,.int 0 0] }).objs.size=s.heap.objs.size+1:=Heap.size_push ..;show _/\_;rw [hz];have he:IsEnum ((s.heap.push { cls:=.type "tuple_iterator",data:=.fields #[.ref l,.int 0 0] }).push { cls:=.type "enumerate",data:=.fields #[.none,.bool false,.ref s.heap.objs.size,rawInt 0,.none,.none] }) (s.heap.objs.size+1) s.heap.objs.size 0 .none:=by
  have:=Heap.get?_push_size (s.heap.push { cls:=.type "tuple_iterator",data:=.fields #[.ref l,.int 0 0] }) (o:={ cls:=.type "enumerate",data:=.fields #[.none,.bool false,.ref s.heap.objs.size,rawInt 0,.none,.none] }) rfl;rw [hz] at this;exact this
 exact⟨⟨_,he,rfl⟩,h _ he ⟨_,Heap.get?_push_of_some _ (Heap.get?_push_size _ rfl),rfl,rfl⟩ (by rw [Heap.size_push,hz]) fun b o x=>Heap.get?_push_of_some _ (Heap.get?_push_of_some _ x)⟩
theorem qC{P:Program}{w:World}{K:Frag}{es:List Expr}{kk:Nat}{ps:Pos}(a e it:Addr)(hei:e≠it):Turn P w K (.Tuple es kk ps) (A3 fun H xs=>SqL K H a xs) [e,it] e (fun i h=>(∃ old,IsEnum h e it i old)/\h.IsListIter it a i) where
 mem:=by simp
 obj:=fun i h st b hb=>by
  obtain⟨⟨old,he⟩,o,ho,hc,hd⟩:=st;rcases ai.mp hb with z|z
  ·rw [z];exact⟨_,he,fun v q=>by cases q⟩
  ·rw [am.mp z];exact⟨o,ho,fun v q=>by rw [hd] at q;cases q⟩
 keep:=fun i h h' st k=>by
  obtain⟨⟨old,he⟩,o,ho,r⟩:=st;exact⟨⟨old,k e (by simp) _ he⟩,o,k it (by simp) o ho,r⟩
 item:=by
  intro X hP hw hK hc i pins s σ H E I hf st hg;subst hP hw hK;obtain⟨xs,x,hq,hx⟩:=hg;obtain⟨its,rv,p,hz⟩:=I.list hq;obtain⟨u,hu,ru⟩:=rv.get hx;obtain⟨⟨old,he⟩,hit⟩:=st;have hl:s.heap.IsList a its.toArray:=p.isList;have hne:a≠it:=fun z=>by
   obtain⟨o,ho,c,_⟩:=id hl;obtain⟨o',ho',c',_⟩:=id hit;rw [z,ho'] at ho;cases ho;rw [c'] at c;revert c;decide
  have hae:e≠a:=fun z=>by
   obtain⟨o,ho,c,_⟩:=id hl;rw [← z,he] at ho;cases ho;have c':Value.type "enumerate" = Value.type _:=c;revert c';decide
  have le:e<s.heap.objs.size:=Heap.lt_size he;have li:it<s.heap.objs.size:=by obtain⟨o,ho,_⟩:=id hit;exact Heap.lt_size ho
  refine wpAny_pyNext_enum_itemD (Draws.list (A:=X.A.in1) (I.ok.hd hc) it a hne its.toArray) he ⟨hit,hl⟩ (by have:=(av.mp hu).1;simpa using this) hei (by simp [hei,hae]) fun y h1 tk hP ho hst hT hsz hk=>?_;have hy:its[i]? = some y:=by simpa using hP
  rw [hu] at hy;cases hy;refine⟨_,rfl,wpAny_letOwnedTupleGo_enum ho fun h2 he2 hs2=>?_⟩;obtain⟨I2,n2⟩:=oi (t2:=tk+1) I hf le li ru hT hk hs2;refine⟨.ref s.heap.objs.size,_,I2,rfl,⟨_,x,rfl,I.hok.fresh (aj _),rfl,fun ys hy=>by rw [I.list_inj hy hq];exact hx⟩,⟨⟨_,by simpa using he2⟩,?_⟩,n2⟩;obtain⟨o,ho1,r⟩:=hst.1;exact⟨o,(hs2.2 it hei.symm).trans ho1,r⟩
 done:=by
  intro X hP hw hK hc i pins s σ H E I hf st hg;subst hP hw hK;obtain⟨xs,hq,hx⟩:=hg;obtain⟨its,rv,p,hz⟩:=I.list hq;obtain⟨⟨old,he⟩,hit⟩:=st;have hl:s.heap.IsList a its.toArray:=p.isList;have hne:a≠it:=fun z=>by
   obtain⟨o,ho,c,_⟩:=id hl;obtain⟨o',ho',c',_⟩:=id hit;rw [z,ho'] at ho;cases ho;rw [c'] at c;revert c;decide
  obtain⟨f0,f1,f2,f3,f4,f5⟩:=hf it (by simp);have le:=rv.length;refine wpAny_pyNext_enum_end (I.ok.hd hc) he hit hl (by simp;(first|lia|omega)) fun h' eb=>⟨rfl,I.turned (t':=s.toks) (fun b o hb e=>eb b o hb e) f0 f1 f3 f4 f5⟩
 self:=fun _ _ _ _ _ st h=>by
  obtain⟨⟨old,he⟩,_⟩:=st;exact wpAny_pyIter_enum he h
theorem qB{P:Program}{w:World}{K:Frag}{es:List Expr}{kk:Nat}{ps:Pos}(a e it:Addr)(hei:e≠it):Turn P w K (.Tuple es kk ps) (A3 fun H xs=>SqT K H a xs) [e,it] e (fun i h=>(∃ old,IsEnum h e it i old)/\h.IsTupleIter it a i) where
 mem:=by simp
 obj:=fun i h st b hb=>by
  obtain⟨⟨old,he⟩,o,ho,hc,hd⟩:=st;rcases ai.mp hb with z|z
  ·rw [z];exact⟨_,he,fun v q=>by cases q⟩
  ·rw [am.mp z];exact⟨o,ho,fun v q=>by rw [hd] at q;cases q⟩
 keep:=fun i h h' st k=>by
  obtain⟨⟨old,he⟩,o,ho,r⟩:=st;exact⟨⟨old,k e (by simp) _ he⟩,o,k it (by simp) o ho,r⟩
 item:=by
  intro X hP hw hK hc i pins s σ H E I hf st hg;subst hP hw hK;obtain⟨xs,x,hq,hx⟩:=hg;obtain⟨its,rv,p,hz⟩:=I.tuple hq;obtain⟨u,hu,ru⟩:=rv.get hx;obtain⟨⟨old,he⟩,hit⟩:=st;have hl:s.heap.IsTuple a its.toArray:=p;have hne:a≠it:=fun z=>by
   obtain⟨o,ho,c,_⟩:=id hl;obtain⟨o',ho',c',_⟩:=id hit;rw [z,ho'] at ho;cases ho;rw [c'] at c;revert c;decide
  have hae:e≠a:=fun z=>by
   obtain⟨o,ho,c,_⟩:=id hl;rw [← z,he] at ho;cases ho;have c':Value.type "enumerate" = Value.type _:=c;revert c';decide
  have le:e<s.heap.objs.size:=Heap.lt_size he;have li:it<s.heap.objs.size:=by obtain⟨o,ho,_⟩:=id hit;exact Heap.lt_size ho
  refine wpAny_pyNext_enum_itemD (zi (A:=X.A.in1) (I.ok.hd hc) it a hne its.toArray) he ⟨hit,hl⟩ (by have:=(av.mp hu).1;simpa using this) hei (by simp [hei,hae]) fun y h1 tk hP ho hst hT hsz hk=>?_;have hy:its[i]? = some y:=by simpa using hP
  rw [hu] at hy;cases hy;refine⟨_,rfl,wpAny_letOwnedTupleGo_enum ho fun h2 he2 hs2=>?_⟩;obtain⟨I2,n2⟩:=oi (t2:=tk+1) I hf le li ru hT hk hs2;refine⟨.ref s.heap.objs.size,_,I2,rfl,⟨_,x,rfl,I.hok.fresh (aj _),rfl,fun ys hy=>by rw [I.tuple_inj hy hq];exact hx⟩,⟨⟨_,by simpa using he2⟩,?_⟩,n2⟩;obtain⟨o,ho1,r⟩:=hst.1;exact⟨o,(hs2.2 it hei.symm).trans ho1,r⟩
 done:=by
  intro X hP hw hK hc i pins s σ H E I hf st hg;subst hP hw hK;obtain⟨xs,hq,hx⟩:=hg;obtain⟨its,rv,p,hz⟩:=I.tuple hq;obtain⟨⟨old,he⟩,hit⟩:=st;have hl:s.heap.IsTuple a its.toArray:=p;have hne:a≠it:=fun z=>by
   obtain⟨o,ho,c,_⟩:=id hl;obtain⟨o',ho',c',_⟩:=id hit;rw [z,ho'] at ho;cases ho;rw [c'] at c;revert c;decide
  obtain⟨f0,f1,f2,f3,f4,f5⟩:=hf it (by simp);have le:=rv.length;refine tQ (I.ok.hd hc) he hit hl (by simp;(first|lia|omega)) fun h' eb=>⟨rfl,I.turned (t':=s.toks) (fun b o hb e=>eb b o hb e) f0 f1 f3 f4 f5⟩
 self:=fun _ _ _ _ _ st h=>by
  obtain⟨⟨old,he⟩,_⟩:=st;exact wpAny_pyIter_enum he h
def Ay(K:Frag)(ta:TA):TI:=fun σ H R=>ta σ H fun vs H1=>∃ a,vs=[.ref a]/\(((∃ xs,SqL K H1 a xs)/\R (A3 fun H xs=>SqL K H a xs) H1)\/((∃ xs,SqT K H1 a xs)/\R (A3 fun H xs=>SqT K H a xs) H1))
theorem nF:bootBuiltins "enumerate" = some (.type "enumerate"):=by decide +kernel
theorem wb{X:Cx}(K:Frag){es:List Expr}{kk:Nat}{ps:Pos}{a:Expr}{ta:TA}{p pos:Pos}(hg:Gl X "enumerate")(hm:X.mg "enumerate" = none)(ha:PA X [a] ta)(hK:X.K=K:=by rfl)(hs:starEach [a] X.env=[(false,eval a X.env)]:=by rfl):PI X (.Tuple es kk ps) (.Call (.Name "enumerate" p) [a] [] pos) (Ay K ta):=by
 subst hK;intro pins s σ H R I h;refine Call_ (kA I hg hm nF (PyProof.Rows.callWith_type1 (jv (ha pos pins s σ H _ I h) fun us s1 ⟨vs,H1,I1,r1,q1⟩=>?_) hs rfl));obtain⟨l,e,q1⟩:=q1;subst e;obtain⟨u,rfl,ru⟩:=Vals.one r1;cases ru;have fp1:∀{h':Heap},∀ b∈[s1.heap.objs.size+1,s1.heap.objs.size],kH X pins H1 b:=fun b hb=>by
  have hb':s1.heap.objs.size<=b:=by
   rcases ai.mp hb with z|z
   ·(first|lia|omega)
   ·rw [am.mp z];exact aj _
  exact I1.fpOk hb' (I1.hok.fresh hb')
 rcases q1 with⟨⟨xs,hq⟩,q⟩|⟨⟨xs,hq⟩,q⟩
 ·obtain⟨its,rv,pl,hz⟩:=I1.list hq;refine call_enumerate_list pl.isList fun h' he hit hsz hk=>?_;refine wpAny_pyIter_enum he ?_;exact⟨_,[s1.heap.objs.size+1,s1.heap.objs.size],_,_,H1,rfl,I1.kept (t':=s1.toks) hk,qC l _ _ (Nat.succ_ne_self _),⟨⟨_,he⟩,hit⟩,fp1 (h':=h'),q⟩
 ·obtain⟨its,rv,pl,hz⟩:=I1.tuple hq;refine re pl fun h' he hit hsz hk=>?_;refine wpAny_pyIter_enum he ?_;exact⟨_,[s1.heap.objs.size+1,s1.heap.objs.size],_,_,H1,rfl,I1.kept (t':=s1.toks) hk,qB l _ _ (Nat.succ_ne_self _),⟨⟨_,he⟩,hit⟩,fp1 (h':=h'),q⟩
theorem BX{X:Cx}(K:Frag)(hK:X.K=K:=by rfl):AT X (fun o i H Q=>∃ p xs v,∃ j:Nat,o = .ref p/\i = .int j/\SqL K H p xs/\xs[j]? = some v/\Q v H):=by
 subst hK;intro pins s σ H o i ov iv Q I ro ri h;obtain⟨p,xs,v,j,rfl,rfl,hq,hv,q⟩:=h;cases ro;obtain⟨t,rfl⟩:=ri;obtain⟨its,r,pl,hz⟩:=I.list hq;obtain⟨w,ew,rw'⟩:=r.get hv;have hl:=(av.mp hv).1;have hn:=j2;exact wpAny_getItem_list pl.isList (by first|lia|omega) (by first|lia|omega) (by rw [aX];simpa using ew) ⟨v,H,I,rw',q⟩
end L2
namespace HT
open PySem PyProof.Rows
variable{prog:Program}{w:World}{A:Around}{E:Value->Shared->Prop}{s:Shared}
theorem kR{t sl:Addr}{items:Array Value}{vl vu:Value}{lo hi:Option Int}{Q:Value->Shared->Prop}(ht:IsTup s.heap t items)(hs:s.heap.IsSliceOf sl vl vu .none)(pl:IsPart vl lo)(pu:IsPart vu hi)
  (hw:jF items.size 0 lo=0/\jF items.size items.size hi=items.size) (h:Q (.ref t) s):wpAny (model prog w) A (getItem (.ref t) (.ref sl)) Q E s:=by
 obtain⟨os,hos,hcs,hds⟩:=id hs;have hTs:s.TypeIs (.ref sl) "slice" := ⟨os,hos,hcs⟩;unfold getItem;try with_reducible refine wpAny_holding ?_
 first|refine wpAny_bind (wpAny_pure ?_)|skip
 refine wpAny_bind (wpAny_sequenceKey ht.typeIs (by decide) ?_);refine wpAny_bind (wpAny_callSpecial?_slot (name:=Str.ofString "__getitem__") ht.typeIs PyProof.Rows.slot_tuple_getitem (wpAny_call_entry PyProof.Rows.slot_tuple_getitem ht.typeIs entry_tuple_getitem ?_ (args_tuple_getitem _ _)));show wpAny _ _ (Builtin.Tuple.tupleItemsOf (.ref t) >>= _) _ _ s;refine wpAny_bind (tupleItemsOf_ ht ?_);refine wpAny_bind (wpAny_typeOf hTs ?_);rw [if_pos (by decide)];refine wpAny_bind (j5 hs pl pu ?_);have hyes:(((jF items.size 0 lo:Nat):Int) == 0 && (1:Int) == 1 && (jF items.size items.size hi-jF items.size 0 lo) == items.size)=true:=by
  rw [hw.1,hw.2];simp
 show wpAny _ _ (if (((jF items.size 0 lo:Nat):Int) == 0 && (1:Int) == 1 && (jF items.size items.size hi-jF items.size 0 lo) == items.size)=true then _ else _) _ _ s;rw [if_pos hyes];refine wpAny_bind (m:=Builtin.Tuple.tupleIsExact _) ?_;unfold Builtin.Tuple.tupleIsExact;refine wpAny_bind (wpAny_typeOf ht.typeIs (wpAny_pure ?_));rw [if_pos (by decide)];first
  | exact wpAny_bind (wpAny_rule (wpAny_bind (wpAny_pure (wpAny_pure ⟨_,rfl,wpAny_pure h⟩))))
  | exact wpAny_bind (wpAny_rule (wpAny_pure ⟨_,rfl,wpAny_pure h⟩))
  | exact wpAny_bind (wpAny_rule (wpAny_bind (wpAny_pure ⟨_,rfl,wpAny_pure h⟩)))
end HT
namespace RV
open PySem PyProof.Rows
theorem pT:Manifest.owners.lookup (String.ofList ['d','e','s','r','e','v','e','r'].reverse)=some Manifest.sig_reversed:=by kernel_rfl
theorem slot_next:Slot "reversed" "__next__" "reversed.__next__" := .of (owner := "reversed") (n := "__next__") (by rw [typeLookup_type,builtinLookup_eq_fast];kernel_rfl) (by decide +kernel) (by decide +kernel) (by decide +kernel) (by first|exact .inl (by decide +kernel)|exact .inr (by decide +kernel)) (by rw [isSubtype_type];kernel_rfl)
theorem nS:Slot "reversed" "__iter__" "reversed.__iter__" := .of (owner := "reversed") (n := "__iter__") (by rw [typeLookup_type,builtinLookup_eq_fast];kernel_rfl) (by decide +kernel) (by decide +kernel) (by decide +kernel) (by first|exact .inl (by decide +kernel)|exact .inr (by decide +kernel)) (by rw [isSubtype_type];kernel_rfl)
theorem sJ:Slot "reversed" "__init__" "object.__init__" := .of (owner := "object") (n := "__init__") (by rw [typeLookup_type,builtinLookup_eq_fast];kernel_rfl) (by decide +kernel) (by decide +kernel) (by decide +kernel) (by first|exact .inl (by decide +kernel)|exact .inr (by decide +kernel)) (by rw [isSubtype_type];kernel_rfl)
theorem nw:entryFor table "reversed.__next__" = some Builtin.«reversed.__next__» := entryFor_of_tree (by kernel_rfl)
theorem rf:entryFor table "reversed.__iter__" = some Builtin.«dict_keyiterator.__iter__» := entryFor_alias (id' := "dict_keyiterator.__iter__") (by kernel_rfl) (by first|rfl|decide +kernel|(unfold String.splitOn;simp +decide [String.splitOnAux])) (by decide +kernel) (by kernel_rfl)
theorem oA(a:Value):argsOk "reversed.__next__" ⟨[a],[]⟩:=by
 unfold argsOk;rw [signature?_of (id := "reversed.__next__") (n:=['_','_','t','x','e','n','_','_']) (o:=['d','e','s','r','e','v','e','r']) (by kernel_rfl) pT];kernel_rfl
theorem tW(a:Value):argsOk "reversed.__iter__" ⟨[a],[]⟩:=by
 unfold argsOk;rw [signature?_of (id := "reversed.__iter__") (n:=['_','_','r','e','t','i','_','_']) (o:=['d','e','s','r','e','v','e','r']) (by kernel_rfl) pT];kernel_rfl
theorem yS:typeLookup (.type "tuple") "__reversed__" = pure none:=by rw [typeLookup_type,builtinLookup_eq_fast];kernel_rfl
theorem zo:TypeCalled "reversed" "reversed.__new__" "object.__init__" := ⟨by decide +kernel,by decide +kernel,⟨_,_,F.mro_reversed⟩,F.made_reversed,by decide +kernel,by rw [isSubtype_type];kernel_rfl,sJ⟩
theorem wD:isSubtype (.type "tuple") (.type "dict")=pure false:=by rw [isSubtype_type];kernel_rfl
section
variable{prog:Program}{w:World}{A:Around}{E:Value->Shared->Prop}{s:Shared}
theorem tw(t:Addr)(items:Array Value)(n:Nat)(dct:Option Addr)(sl:Array (Option Value)) :
  Meets (Builtin.«reversed.__new__» ⟨[.type "reversed",.ref t],[]⟩) (fun _ R s=>s.heap.get? t=some { cls:=.type "tuple",dict:=dct,data:=.seq items n,slots:=sl }/\(items.size:Int)<2^63 /\
   ∀ tk,R (.ok (.ret (.ref s.heap.objs.size))) { s with heap:=s.heap.push { cls:=.type "reversed",data:=.fields #[.ref t,rawInt ((items.size:Int)-1)] },toks:=tk }) :=
 .of_wp fun prog w A R s h=>by
  obtain⟨ht,hsz,h⟩:=h;have hT:s.heap.IsTuple t items:=⟨_,ht,rfl,n,rfl⟩;unfold Builtin.«reversed.__new__»;refine wpAny_bind (wpAny_of_eq (newClass_reversed _) ?_);try dsimp only
  refine wpAny_bind (wpAny_of_eq (a:=()) (by first|rfl|kernel_rfl) ?_);refine wpAny_bind (wpAny_of_eq (a:=()) (by first|rfl|kernel_rfl) ?_);try dsimp only
  refine wpAny_bind (wpAny_specialOf hT.typeIs yS ?_);try dsimp only
  refine wpAny_bind ?_;show wpAny _ _ (isInstance (.ref t) (.type "dict") >>= _) _ _ s;refine wpAny_bind (wpAny_isInstance hT.typeIs wD ?_);try dsimp only
  show wpAny _ _ (if false=true then _ else _) _ _ s;rw [if_neg ao];refine wpAny_bind (wpAny_specialOf hT.typeIs PyProof.Rows.slot_tuple_getitem.lookup ?_);try dsimp only
  show wpAny _ _ (if _=true then _ else _) _ _ s;rw [if_pos (by decide)];refine wpAny_pure ?_;show wpAny _ _ (if (!true)=true then _ else _) _ _ s;rw [if_neg (by decide)];refine wpAny_bind (PyProof.Rows.len_tuple hT hsz ?_);refine wpAny_bind (m:=asInt? _) (wpAny_pure ?_);try dsimp only
  refine wpAny_bind ?_;show wpAny _ _ (newObj (.type "reversed") (.fields #[.ref t,rawInt ((items.size:Int)-1)])) _ _ _;refine wpAny_newObj_type ?_ (by size_fits);exact wpAny_pure ⟨_,rfl,h _⟩
theorem vA{t:Addr}{items:Array Value}{Q:Value->Shared->Prop}(hT:s.heap.IsTuple t items)(hsz:(items.size:Int)<2^63)
  (h:∀ tk,Q (.ref s.heap.objs.size) { s with heap:=s.heap.push { cls:=.type "reversed",data:=.fields #[.ref t,rawInt ((items.size:Int)-1)] },toks:=tk }):wpAny (model prog w) A (call (.type "reversed") [.ref t]) Q E s:=by
 obtain⟨⟨c,dct,dt,sl⟩,hl,hc,n,hd⟩:=hT;have hc':c = .type "tuple" := hc;have hd':dt = .seq items n:=hd;subst hc' hd';refine callType_new zo (by decide) (F.typeCall_reversed_1 _) (F.newCall_reversed_1 _) (fun obj=>F.args_object_init_2 obj _) F.entry_reversed_new (tw t items n dct sl) ⟨hl,hsz,fun tk=>?_⟩;exact⟨⟨_,Heap.get?_push_size _ rfl,rfl⟩,h tk⟩
def Is(h:Heap)(a t:Addr)(i:Int):Prop:=∃ o,h.get? a=some o/\o.cls = .type "reversed" /\ o.data = .fields #[.ref t,rawInt i]
theorem Is.ty{a t:Addr}{i:Int}(x:Is s.heap a t i):s.TypeIs (.ref a) "reversed" := let ⟨o,ho,hc,_⟩:=x;⟨o,ho,hc⟩
theorem n8{a t:Addr}{i:Int}{Q:Value->Shared->Prop}(x:Is s.heap a t i)(h:Q (.ref a) s):wpAny (model prog w) A (pyIter (.ref a)) Q E s:=by
 refine wpAny_pyIter_slot x.ty nS (wpAny_call_entry nS x.ty rf ?_ (tW _));show wpAny _ _ (ret (.ref a)) _ _ s;exact wpAny_pure ⟨_,rfl, "reversed",_,x.ty,slot_next.lookup,h⟩
theorem tq{it t:Addr}{i:Nat}{items:Array Value}{x:Value}{Q:Option Value->Shared->Prop}(hit:Is s.heap it t (i:Int))(hT:s.heap.IsTuple t items)(hx:items[i]? = some x)(hsz:(items.size:Int)<2^63)
  (hQ:∀ h' tk,Is h' it t ((i:Int)-1)->Heap.SameBut it s.heap h'->Q (some x) { s with heap:=h',toks:=tk }):wpAny (model prog w) A (pyNext (.ref it)) Q E s:=by
 obtain⟨o,ho,hc,hd⟩:=id hit;unfold pyNext;refine wpAny_bind (wpAny_attempt (wpAny_callSpecial?_slot (name:=Str.ofString "__next__") hit.ty slot_next (wpAny_call_entry slot_next hit.ty nw ?_ (oA _))));unfold Builtin.«reversed.__next__»;refine wpAny_bind (wpAny_of_eq (a:=(Value.ref it,[])) rfl ?_);try dsimp only
 refine wpAny_bind (wpAny_field ho hd (x:=.ref t) rfl ?_);refine wpAny_bind (wpAny_field ho hd (x:=rawInt (i:Int)) rfl ?_);try dsimp only [rawInt]
 rw [if_neg (by first|lia|omega)];refine wpAny_bind (wpAny_specialOf hT.typeIs PyProof.Rows.slot_tuple_getitem.lookup ?_);show wpAny _ _ (if false=true then _ else _) _ _ s;rw [if_neg ao];refine wpAny_bind (wpAny_mkInt ?_);have hlt:i<items.size:=(aU.mp hx).1;refine wpAny_bind (wpAny_attempt ?_);refine PyProof.Rows.getItem_tuple (j:=i) (x:=x) hT (by first|lia|omega) (by first|lia|omega) (by unfold seqIndex?;simp;(first|lia|omega)) hx ?_;try dsimp only
 refine wpAny_bind (wpAny_field (s:={ s with toks:=s.toks+1 }) ho hd (x:=rawInt (i:Int)) rfl ?_);try dsimp only [rawInt]
 refine wpAny_bind (wpAny_setField (s:={ s with toks:=s.toks+1 }) ho hd (by simp) (wpAny_pure ⟨x,rfl,wpAny_pure (hQ _ _ ?_ (Heap.SameBut.update ..))⟩));exact⟨_,Heap.get?_update_self _ ho (Obj.isFreed_of_fields (Obj.data_mapFields hd _)),(Obj.cls_mapFields ..).trans hc,by rw [Obj.data_mapFields hd];simp [rawInt]⟩
theorem uX{it t:Addr}{Q:Option Value->Shared->Prop}(hh:A.handled=none)(hit:Is s.heap it t (-1))(hQ:∀ h',Heap.ExtBut it s.heap h'->Q none { s with heap:=h' }):wpAny (model prog w) A (pyNext (.ref it)) Q E s:=by
 obtain⟨o,ho,hc,hd⟩:=id hit;unfold pyNext;refine wpAny_bind (wpAny_attempt (wpAny_callSpecial?_slot (name:=Str.ofString "__next__") hit.ty slot_next (wpAny_call_entry slot_next hit.ty nw ?_ (oA _))));unfold Builtin.«reversed.__next__»;refine wpAny_bind (wpAny_of_eq (a:=(Value.ref it,[])) rfl ?_);try dsimp only
 refine wpAny_bind (wpAny_field ho hd (x:=.ref t) rfl ?_);refine wpAny_bind (wpAny_field ho hd (x:=rawInt (-1)) rfl ?_);try dsimp only [rawInt]
 rw [if_pos (by decide)];refine wpAny_bind (wpAny_rule ?_);refine wpAny_bind ?_;show wpAny _ _ (setField (.ref it) 1 (rawInt (-1)) >>= _) _ _ s;refine wpAny_bind (wpAny_setField ho hd (by simp) ?_);have ho':=Heap.get?_update_self (h:=s.heap) (Obj.mapFields (·.setIfInBounds 1 (rawInt (-1)))) ho (Obj.isFreed_of_fields (Obj.data_mapFields hd _));refine wpAny_setField ho' (Obj.data_mapFields hd _) (by simp) ?_;refine wpAny_bind ?_;unfold Builtin.SmallTypes.stopIteration;refine wpAny_bind ?_;simp only [newExc,newTuple];refine wpAny_bind (wpAny_newObj_type ?_ (by size_fits));refine wpAny_bind (m:=firstArgMember _ _) (wpAny_of_eq (a:=Value.none) (by first|rfl|(simp only [firstArgMember];rfl)) ?_);refine wpAny_newObj_type ?_ (by size_fits);simp only [raiseNew];refine wpAny_bind (wpAny_handled ?_);first|rw [show A.in1.handled=none from hh]|rw [hh]
 refine wpAny_bind (wpAny_pure (wpAny_throw ?_));refine wpAny_bind (wpAny_isInstance (T := "StopIteration") (b:=true) ⟨_,Heap.get?_push_size _ rfl,rfl⟩ isSubtype_stop ?_);refine wpAny_pure (hQ _ fun b o hb e=>?_);refine Heap.get?_push_of_some _ (Heap.get?_push_of_some _ ?_);exact (Heap.SameBut.update ..).extBut b o hb ((Heap.SameBut.update ..).extBut b o hb e)
end
end RV
namespace L2
open PySem PySem.Spec PyProof.Rows
theorem ue{P:Program}{w:World}{K:Frag}{tg:Expr}(n:Nat)(a it:Addr):Turn P w K tg (⟨fun i H=>i<n/\∃ xs x,SqT K H a xs/\xs.length=n/\xs.reverse[i]? = some x,fun i H x H'=>H'=H/\∀ xs,SqT K H a xs->xs.reverse[i]? = some x,fun i H=>i=n⟩:It) [it] it (fun i h=>RV.Is h it a ((n:Int)-1-(i:Int))) where
 mem:=by simp
 obj:=fun i h st b hb=>by
  have e:b=it:=by simpa using hb
  subst e;obtain⟨o,e,c,d⟩:=st;exact⟨o,e,fun v z=>by rw [d] at z;cases z⟩
 keep:=fun i h h' st k=>by
  obtain⟨o,e,r⟩:=st;exact⟨o,k it (by simp) o e,r⟩
 item:=by
  intro X hP hw hK hc i pins s σ H E I hf st hg;subst hP hw hK;obtain⟨hlt,xs,x,hq,hn,hx⟩:=hg;obtain⟨its,rv,p,hz⟩:=I.tuple hq;have hlen:=rv.length;rw [bz (by first|lia|omega)] at hx;obtain⟨u,hu,ru⟩:=rv.get hx;obtain⟨f0,f1,f2,f3,f4,f5⟩:=hf it (by simp);have e0:(n:Int)-1-(i:Int)=((xs.length-1-i:Nat):Int):=by first|lia|omega
  have st':RV.Is s.heap it a ((xs.length-1-i:Nat):Int):=by rw [← e0];exact st
  have hn63:=j2;refine RV.tq (i:=xs.length-1-i) st' (show s.heap.IsTuple a its.toArray from p) (x:=u) (by simpa using hu) (by rw [af];(first|lia|omega)) fun h' tk st2 sb=>?_;have I1:Inv X pins σ H { s with heap:=h',toks:=tk }:=I.turned (t':=tk) (fun b o hb e=>(sb.2 b hb).trans e) f0 f1 f3 f4 f5;obtain⟨o,e,c,d⟩:=id st2;refine⟨u,rfl,oe (s:={ s with heap:=h',toks:=tk }) e c d (by decide) ⟨x,H,I1,ru,⟨rfl,fun ys hy=>?_⟩,?_,fun b hb=>(hf b hb).1⟩⟩
  ·rw [I.tuple_inj hy hq,bz (by first|lia|omega)];exact hx
  ·show RV.Is h' it a ((n:Int)-1-((i+1:Nat):Int));rw [show (n:Int)-1-((i+1:Nat):Int)=((xs.length-1-i:Nat):Int)-1 by first|lia|omega];exact st2
 done:=by
  intro X hP hw hK hc i pins s σ H E I hf st hg;subst hP hw hK;have hg':i=n:=hg;subst hg';obtain⟨f0,f1,f2,f3,f4,f5⟩:=hf it (by simp);have st':RV.Is s.heap it a (-1):=by
   have e:(i:Int)-1-(i:Int) = -1:=by first|lia|omega
   rw [← e];exact st
  exact RV.uX (I.ok.hd hc) st' fun h' eb=>⟨rfl,I.turned (t':=s.toks) (fun b o hb e=>eb b o hb e) f0 f1 f3 f4 f5⟩
 self:=fun _ _ _ _ _ st h=>RV.n8 st h
end L2
namespace Hv
open L2
def hv(F:Nat->Int)(t u:Int):Nat->Int
 | 0=>0
 | n+1=>(hv F t u n+F n*t^n)*u
end Hv
namespace L2
instance decLt2 (n:Nat)(i:Int):Decidable (Lt2 n i):=inferInstanceAs (Decidable (i.natAbs<2^n))
end L2
namespace Qp
open L2 Hv
theorem pY{b:Int}(h:b≠0):(b:Rat)≠0:=fun z=>h (Rat.intCast_eq_zero_iff.mp z)
theorem zj{a b c d:Int}(hb:b≠0)(hd:d≠0):((a:Rat) / (b:Rat)=(c:Rat) / (d:Rat))↔a*d=c*b:=by
 have h1:=pY hb;have h2:=pY hd;constructor
 ·intro h;have:(a:Rat)*(d:Rat)=(c:Rat)*(b:Rat):=by grind
  rw [← cs,← cs] at this;exact Rat.intCast_inj.mp this
 ·intro h;have:(a:Rat)*(d:Rat)=(c:Rat)*(b:Rat):=by rw [← cs,← cs,h]
  grind
end Qp
namespace HT
open PySem PyProof.Rows
variable{prog:Program}{w:World}{A:Around}{E:Value->Shared->Prop}{s:Shared}
theorem qj{α β:Type}{f g:α->Option β}:∀{l:List α},(∀ a∈l,f a=g a)->l.filterMap f=l.filterMap g
 | [],_=>rfl
 | a::l,h=>by
  rw [aL,aL,h a ar,qj fun b hb=>h b (aq _ hb)]
theorem ma{sl:Addr}{vl vs:Value}{n:Nat}{Q:Int×Int×Nat->Shared->Prop}(hs:s.heap.IsSliceOf sl vl .none vs)(pl:IsPart vl (some 1))(ps:IsPart vs (some 2))
  (h:Q (((min 1 n:Nat):Int),2,n / 2) s):wpAny (model prog w) A (Builtin.Slice.sliceApplied (.ref sl) (pure (n:Int))) Q E s:=by
 obtain⟨os,hos,hcs,hds⟩:=id hs;unfold Builtin.Slice.sliceApplied Builtin.Slice.sliceFields;refine wpAny_bind (wpAny_bind (wpAny_field hos hds (x:=vl) rfl (wpAny_bind (wpAny_field hos hds (x:=.none) rfl (wpAny_bind (wpAny_field hos hds (x:=vs) rfl (wpAny_pure ?_)))))));refine wpAny_bind (j8 ps ?_);show wpAny _ _ (if ((2:Int) == 0)=true then _ else _) _ _ s;rw [if_neg (by decide)];refine wpAny_bind (j8 pl (wpAny_bind (slicePart_none (wpAny_bind (wpAny_pure ?_)))));show wpAny _ _ (match Builtin.Slice.sliceAdjust (some 1) none 2 (n:Int) with|(lo,hi)=>pure (lo,(2:Int),Builtin.Slice.slicePlaces lo hi 2)) _ _ s;have e:Builtin.Slice.sliceAdjust (some 1) none 2 (n:Int)=(((min 1 n:Nat):Int),(n:Int)):=by
  unfold Builtin.Slice.sliceAdjust;simp
  (first|lia|omega)
 rw [e];show wpAny _ _ (pure (((min 1 n:Nat):Int),(2:Int),Builtin.Slice.slicePlaces ((min 1 n:Nat):Int) (n:Int) 2)) _ _ s;have e2:Builtin.Slice.slicePlaces ((min 1 n:Nat):Int) (n:Int) 2=n / 2:=by
  unfold Builtin.Slice.slicePlaces;have h1:(2:Int) > 0:=by first|lia|omega
  simp only [h1,if_true];split <;> (first|lia|omega)
 rw [e2];exact wpAny_pure h
theorem lP{t sl:Addr}{items:Array Value}{vl vs:Value}{Q:Value->Shared->Prop}(ht:IsTup s.heap t items)(hs:s.heap.IsSliceOf sl vl .none vs)(pl:IsPart vl (some 1))(ps:IsPart vs (some 2))
  (h:Q (.ref s.heap.objs.size) { s with heap:=s.heap.push { cls:=.type "tuple",data:=.seq ((List.range (items.size / 2)).filterMap fun (m:Nat)=>items[1+m*2]?).toArray } })
  (hsz:items.size<=sizeLine):wpAny (model prog w) A (getItem (.ref t) (.ref sl)) Q E s:=by
 have htake:sizeOk (.seq ((List.range (items.size / 2)).filterMap fun (m:Nat)=>items[1+m*2]?).toArray):=by
  show ((List.range (items.size / 2)).filterMap fun (m:Nat)=>items[1+m*2]?).toArray.size<=sizeLine;rw [af];have:=bF (fun (m:Nat)=>items[1+m*2]?) (List.range (items.size / 2));rw [dH] at this
  (first|lia|omega)
 obtain⟨os,hos,hcs,hds⟩:=id hs;have hTs:s.TypeIs (.ref sl) "slice" := ⟨os,hos,hcs⟩;unfold getItem;try with_reducible refine wpAny_holding ?_
 first|refine wpAny_bind (wpAny_pure ?_)|skip
 refine wpAny_bind (wpAny_sequenceKey ht.typeIs (by decide) ?_);refine wpAny_bind (wpAny_callSpecial?_slot (name:=Str.ofString "__getitem__") ht.typeIs PyProof.Rows.slot_tuple_getitem
  (wpAny_call_entry PyProof.Rows.slot_tuple_getitem ht.typeIs entry_tuple_getitem ?_ (args_tuple_getitem _ _)))
 show wpAny _ _ (Builtin.Tuple.tupleItemsOf (.ref t) >>= _) _ _ s;refine wpAny_bind (tupleItemsOf_ ht ?_);refine wpAny_bind (wpAny_typeOf hTs ?_);rw [if_pos (by decide)];refine wpAny_bind (ma hs pl ps ?_);have hno:¬ ((((min 1 items.size:Nat):Int) == 0 && (2:Int) == 1 && (items.size / 2) == items.size)=true):=by
  intro q;rw [ax,ax] at q;exact absurd q.1.2 (by decide)
 show wpAny _ _ (if (((min 1 items.size:Nat):Int) == 0 && (2:Int) == 1 && (items.size / 2) == items.size)=true then _ else _) _ _ s;have ep:((List.range (items.size / 2)).filterMap fun (m:Nat)=>items[(((min 1 items.size:Nat):Int)+(m:Int)*2).toNat]?).toArray=((List.range (items.size / 2)).filterMap fun (m:Nat)=>items[1+m*2]?).toArray:=by
  congr 1;refine qj fun m hm=>?_;have:=cU.mp hm;congr 1
  (first|lia|omega)
 rw [if_neg hno,ep];first
  | exact wpAny_bind (m:=Builtin.Tuple.tupleExact _) (wpAny_newObj_type (wpAny_pure ⟨_,rfl,wpAny_pure h⟩) htake)
  | exact wpAny_bind (m:=Builtin.Tuple.tupleExact _) (wpAny_newObj_type (wpAny_bind (wpAny_pure (wpAny_pure ⟨_,rfl,wpAny_pure h⟩))) htake)
  | exact wpAny_bind (wpAny_bind (m:=Builtin.Tuple.tupleExact _) (wpAny_newObj_type (wpAny_pure (wpAny_pure ⟨_,rfl,wpAny_pure h⟩)) htake))
  | exact wpAny_bind (wpAny_bind (m:=Builtin.Tuple.tupleExact _) (wpAny_newObj_type (wpAny_pure ⟨_,rfl,wpAny_pure h⟩) htake))
end HT
namespace L2
open PySem PySem.Spec PyProof.Rows
section
variable{X:Cx}{e:Expr}{te:TE}{lo hi:Option Expr}{se:Expr}{tl th ts:TO}{pos p2:Pos}
def zB(X:Cx)(r:V->Option Int->Option Int->Option Int->Hp->VK->Prop):Prop :=
 ∀(pins:List (Addr×Obj)) (s:Shared) (σ:St) (H:Hp) (x:V) (v vl vu vs:Value) (lo hi st:Option Int) (sl:Addr) (Q:VK),Inv X pins σ H s->RelV x v->s.heap.IsSliceOf sl vl vu vs->IsPart vl lo->IsPart vu hi->IsPart vs st->r x lo hi st H Q ->
  ∃ T id,typeLookup (.type T) "__getitem__" = pure (some (.builtin id))/\s.TypeIs v T/\wpAny (model X.prog X.w) X.A (getItem v (.ref sl)) (EP X pins σ Q) X.xe s
def Bd(r:V->Option Int->Option Int->Option Int->Hp->VK->Prop)(te:TE)(tl th ts:TO):TE:=fun σ H Q=>te σ H fun x H1=>tl σ H1 fun l H2=>th σ H2 fun u H3=>ts σ H3 fun k H4=>r x l u k H4 Q
theorem nX{r:V->Option Int->Option Int->Option Int->Hp->VK->Prop}(hr:zB X r)(he:PE X e te)(hl:PO X lo tl)(hu:PO X hi th)(hs:PO X (some se) ts):PE X (.Subscript e (.Slice lo hi (some se) p2) pos) (Bd r te tl th ts):=by
 intro pins s σ H Q I h;refine Subscript_ (jv (he pins s σ H _ I h) fun v s1 ⟨x,H1,I1,r1,q1⟩=>?_);refine wpAny_Slice (jv (hl pins s1 σ H1 _ I1 q1) fun vl s2 ⟨l,H2,I2,pl,q2⟩=>jv (hu pins s2 σ H2 _ I2 q2) fun vu s3 ⟨u,H3,I3,pu,q3⟩=>jv (hs pins s3 σ H3 _ I3 q3) fun vs s4 ⟨k,H4,I4,pk,q4⟩=>?_);have I5:Inv X pins σ H4 { s4 with heap:=s4.heap.push { cls:=.type "slice",data:=.fields #[vl,vu,vs] } }:=I4.kept (t':=s4.toks) fun b ob q=>Heap.get?_push_of_some _ q;obtain⟨T,id,hT,ht,hg⟩:=hr pins { s4 with heap:=s4.heap.push { cls:=.type "slice",data:=.fields #[vl,vu,vs] } } σ H4 x v vl vu vs l u k s4.heap.objs.size Q I5 r1 (Heap.IsSliceOf.new ..) pl pu pk q4;show wpAny (model X.prog X.w) X.A (subscriptTail e (.Slice lo hi (some se) p2) v (.ref s4.heap.objs.size)) (EP X pins σ Q) X.xe { s4 with heap:=s4.heap.push { cls:=.type "slice",data:=.fields #[vl,vu,vs] } };exact tail_any (ops:=[v,.ref s4.heap.objs.size]) ht hT hg (by with_unfolding_all rfl)
theorem Bt(K:Frag)(hK:X.K=K:=by rfl):zB X (fun x lo hi st H Q=>lo=none/\hi=none/\st=some (-1)/\∃ a xs,x = .ref a/\SqL K H a xs/\∀ p,H p=none->Q (.ref p) (jr H p (.lst xs.reverse))):=by
 subst hK;intro pins s σ H x v vl vu vs lo hi st sl Q I rx hs pl pu pk h;obtain⟨rfl,rfl,rfl,a,xs,rfl,hx,q⟩:=h;cases rx;obtain⟨its,r,ht,hz⟩:=I.list hx;have hlen:=r.length;refine⟨"list",_,slot_list_getitem.lookup,ht.isList.typeIs,?_⟩;refine wpAny_getItem_list_slice ht.isList hs pl pu pk (by decide) ?_ (by rw [af] <;> (first|lia|omega));rw [PySem.W.krv_pick];refine⟨.ref s.heap.objs.size,_,I.laid (t':=s.toks) (o:=.lst xs.reverse) (fun b ob q=>Heap.get?_push_of_some _ q) (aj _) ?_,rfl,q _ (I.hok.fresh (aj _))⟩;exact⟨by rw [bd];exact hz,its.reverse,0,r.reverse,Heap.get?_push_size _ rfl⟩
def tf(xs:List V):List V:=(List.range (xs.length / 2)).filterMap fun m=>xs[1+m*2]?
theorem pF{xs:List V}{its:List Value}(r:Vals xs its):∀ ms:List Nat,Vals (ms.filterMap fun m=>xs[1+m*2]?) (ms.filterMap fun m=>its.toArray[1+m*2]?)
 | []=>.nil
 | m::ms=>by
  have ih:=pF r ms;rw [aL,aL];cases hx:xs[1+m*2]? with
  | none =>
   have:its.toArray[1+m*2]? = none:=by
    have h1:=bD.mp hx;rw [cw];exact bD.mpr (by rw [← r.length];exact h1)
   rw [this];exact ih
  | some x =>
   obtain⟨u,hu,ru⟩:=r.get hx;have:its.toArray[1+m*2]? = some u:=by rw [cw];exact hu
   rw [this];exact .cons ru ih
theorem BE(K:Frag)(hK:X.K=K:=by rfl):zB X (fun x lo hi st H Q=>lo=some 1/\hi=none/\st=some 2/\∃ a xs,x = .ref a/\SqT K H a xs/\∀ p,H p=none->Q (.ref p) (jr H p (.tup (tf xs)))):=by
 subst hK;intro pins s σ H x v vl vu vs lo hi st sl Q I rx hs pl pu pk h;obtain⟨rfl,rfl,rfl,a,xs,rfl,hx,q⟩:=h;cases rx;cases pu;obtain⟨its,r,ht,hz⟩:=I.tuple hx;have hlen:its.toArray.size=xs.length:=by rw [af];exact r.length.symm
 refine⟨"tuple",_,PyProof.Rows.slot_tuple_getitem.lookup,ht.typeIs,?_⟩;refine HT.lP ht hs pl pk ?_ (by rw [hlen];exact hz);rw [hlen];refine⟨.ref s.heap.objs.size,_,I.laid (t':=s.toks) (o:=.tup (tf xs)) (fun b ob q=>Heap.get?_push_of_some _ q) (aj _) ?_,rfl,q _ (I.hok.fresh (aj _))⟩;refine⟨?_,_,pF r _,IsTup.new _ _⟩;have:=bF (fun (m:Nat)=>xs[1+m*2]?) (List.range (xs.length / 2));rw [dH] at this;show (tf xs).length<=sizeLine;unfold tf
 (first|lia|omega)
theorem any_cons(b:Bool)(r:List Bool):(List.range (r.length+1)).any (fun j=>(b::r).getD j false)=(b || (List.range r.length).any (fun j=>r.getD j false)):=by
 rw [db,bM,List.any_map];rfl
theorem sP(bs:List Bool):(List.range bs.length).any (fun j=>bs.getD j false)=bs.any id:=by
 induction bs with
 | nil=>rfl
 | cons b r ih =>
  rw [aJ,any_cons,bM];exact congrArg (b || ·) ih
theorem B4(K:Frag)(hc:X.calm=true:=by rfl)(hK:X.K=K:=by rfl):CallR X (.builtin "any") (fun xs H Q=>∃ p,∃ bs:List Bool,xs=[.ref p]/\SqL K H p (bs.map V.bl)/\Q (.bl (bs.any id)) H):=by
 subst hK;intro pins s σ H xs us Q I rv h;obtain⟨p,bs,rfl,hp,q⟩:=h;obtain⟨u,rfl,ru⟩:=rv.one;cases ru;obtain⟨its,rv',pl,_⟩:=I.list hp;refine call_any_walk (wpAny_pyIter_list pl.isList ?_);have e:∀ b o,s.heap.get? b=some o->(s.heap.push { cls:=.type "list_iterator",data:=.fields #[.ref p,.int 0 0] }).get? b=some o:=fun b o e=>Heap.get?_push_of_some _ e;have hne:p≠s.heap.objs.size:=by
  obtain⟨o,ho,_⟩:=pl.isList;exact aA (Heap.lt_size ho)
 have lb:bs.length=its.length:=by rw [← rv'.length,aH]
 refine⟨_,_,_,_,_,_,fun j=>bs.getD j false,rfl,Walks.list (A:=X.A.in1) (I.ok.hd hc) _ p hne its.toArray,⟨⟨_,Heap.get?_push_size _ rfl,rfl,rfl⟩,pl.isList.at fun o ho=>e _ o ho⟩,?_,fun h' tk hk=>?_⟩
 ·intro i v s Q E hv hq;have hv':its[i]? = some v:=by simpa using hv
  have hi:i<bs.length:=by
   rw [lb];exact (av.mp hv').1
  obtain⟨u,hu,ru⟩:=rv'.get (i:=i) (x:=.bl bs[i]) (by simp [hi]);rw [hv'] at hu;cases hu;cases ru;have:bs.getD i false=bs[i]:=by simp [List.getD,hi]
  have hq:Q (bs.getD i false) s:=hq;rw [this] at hq;exact wpAny_truthy_bool hq
 ·refine⟨.bl (bs.any id),H,I.kept (t':=tk) fun b o ho=>hk b o ?_ (e b o ho),?_,q⟩
  ·simp only [am];exact aA (Heap.lt_size ho)
  ·show Value.bool _=_;rw [← sP,lb];simp
end
def AR(K:Frag)(H:Hp)(v:V)(P:List Int)(B:Int):Prop:=∃ a t,v = .ref a/\SqT K H a [.ref t,.int B]/\SqT K H t (P.map V.int)
theorem Pol.k{K:Frag}{H:Hp}{v:V}{P:List Int}{B:Int}(h:Pol H v P B):AR K H v P B:=by
 obtain⟨a,t,e,h1,h2⟩:=h;exact⟨a,t,e,SqT.of h1,SqT.of h2⟩
instance coePolK {K:Frag}{H:Hp}{v:V}{P:List Int}{B:Int}:Coe (Pol H v P B) (AR K H v P B):=⟨Pol.k⟩
end L2
namespace L2
open PySem PySem.Spec PyProof.Rows
theorem wK{X:Cx}:B9 X "int.bit_length" (fun x vs H Q=>∃ i,x = .int i/\vs=[]/\Q (.int ((Builtin.Int.intBits i:Nat):Int)) H):=by
 intro pins s σ H x vs v us Q I rx rv h;obtain⟨i,rfl,rfl,q⟩:=h;obtain⟨t,rfl⟩:=rx;have hus:=rv.zero;subst hus;exact call_int_bit_length ⟨.int _,H,I.tok _,⟨_,rfl⟩,q⟩
end L2
namespace L2
open PySem PySem.Spec PyProof.Rows
theorem sH{P:Program}{w:World}{K:Frag}{tg:Expr}(n:Nat)(a it:Addr):Turn P w K tg (⟨fun i H=>i<n/\∃ xs x,SqL K H a xs/\xs.length=n/\xs.reverse[i]? = some x,fun i H x H'=>H'=H/\∀ xs,SqL K H a xs->xs.reverse[i]? = some x,fun i H=>i=n⟩:It) [it] it (fun i h=>h.IsRevIter it a ((n:Int)-1-(i:Int))) where
 mem:=by simp
 obj:=fun i h st b hb=>by
  have e:b=it:=by simpa using hb
  subst e;obtain⟨o,e,c,d⟩:=st;exact⟨o,e,fun v z=>by rw [d] at z;cases z⟩
 keep:=fun i h h' st k=>by
  obtain⟨o,e,r⟩:=st;exact⟨o,k it (by simp) o e,r⟩
 item:=by
  intro X hP hw hK hc i pins s σ H E I hf st hg;subst hP hw hK;obtain⟨hlt,xs,x,hq,hn,hx⟩:=hg;obtain⟨its,rv,p,hz⟩:=I.list hq;have hlen:=rv.length;rw [bz (by first|lia|omega)] at hx;obtain⟨u,hu,ru⟩:=rv.get hx;obtain⟨f0,f1,f2,f3,f4,f5⟩:=hf it (by simp);have e0:(n:Int)-1-(i:Int)=((xs.length-1-i:Nat):Int):=by first|lia|omega
  have st':s.heap.IsRevIter it a ((xs.length-1-i:Nat):Int):=by rw [← e0];exact st
  refine wpAny_pyNext_rev_item (i:=xs.length-1-i) st' p.isList (x:=u) (by simpa using hu) fun h' st2 sb=>?_;have I1:Inv X pins σ H { s with heap:=h' }:=I.turned (t':=s.toks) (fun b o hb e=>(sb.2 b hb).trans e) f0 f1 f3 f4 f5;obtain⟨o,e,c,d⟩:=id st2;refine⟨u,rfl,oe (s:={ s with heap:=h' }) e c d (by decide) ⟨x,H,I1,ru,⟨rfl,fun ys hy=>?_⟩,?_,fun b hb=>(hf b hb).1⟩⟩
  ·rw [I.list_inj hy hq,bz (by first|lia|omega)];exact hx
  ·show h'.IsRevIter it a ((n:Int)-1-((i+1:Nat):Int));rw [show (n:Int)-1-((i+1:Nat):Int)=((xs.length-1-i:Nat):Int)-1 by first|lia|omega];exact st2
 done:=by
  intro X hP hw hK hc i pins s σ H E I hf st hg;subst hP hw hK;have hg':i=n:=hg;subst hg';obtain⟨f0,f1,f2,f3,f4,f5⟩:=hf it (by simp);have st':s.heap.IsRevIter it a (-1):=by
   have e:(i:Int)-1-(i:Int) = -1:=by first|lia|omega
   rw [← e];exact st
  exact wpAny_pyNext_rev_end (I.ok.hd hc) st' fun h' eb=>⟨rfl,I.turned (t':=s.toks) (fun b o hb e=>eb b o hb e) f0 f1 f3 f4 f5⟩
 self:=fun _ _ _ _ _ st h=>wpAny_pyIter_revIter st h
end L2
namespace L2
open PySem PySem.Spec PyProof.Rows
theorem tm:fillsNumberSlot (.type "tuple") "mul" = pure false:=PySem.fillsNumberSlot_seq (id := "tuple.__mul__") (r:=some (.builtin "tuple.__rmul__")) F.slot_tuple_mul.lookup (by decide +kernel) F.slot_tuple_rmul.lookup (by decide +kernel)
theorem yk:seqRepeat? (.type "tuple")=pure (some (.builtin "tuple.__mul__")):=by
 unfold seqRepeat?;rw [PySem.seqSlot_of (T := "tuple") (name := "__mul__") (id := "tuple.__mul__") F.slot_tuple_mul.lookup (by decide +kernel),PySem.seqSlot_of (T := "tuple") (name := "__rmul__") (id := "tuple.__rmul__") F.slot_tuple_rmul.lookup (by decide +kernel)];rfl
theorem vZ(a:Int)(t:Tok)(l:Addr)(items:Array Value)(n:Nat)(dd:Option Addr)(sl:Array (Option Value)):Meets (Builtin.«int.__rmul__» ⟨[.int a t,.ref l],[]⟩) (fun _ R s=>s.heap.get? l=some { cls:=.type "tuple",dict:=dd,data:=.seq items n,slots:=sl }/\R (.ok (.ret Value.notImplemented)) s) :=
 .of_wp fun prog w A R s h=>by obtain⟨p1,p2,p3,p4,p5⟩:=s;obtain⟨hl,h⟩:=h;wp_walk;exact⟨_,rfl,h⟩
theorem wI(l:Addr)(items:Array Value)(n:Nat)(u:Tok)(dd:Option Addr)(sl:Array (Option Value)):Meets (Builtin.«tuple.__mul__» ⟨[.ref l,.int 1 u],[]⟩) (fun _ R s=>s.heap.get? l=some { cls:=.type "tuple",dict:=dd,data:=.seq items n,slots:=sl }/\R (.ok (.ret (.ref l))) s) :=
 .of_wp fun prog w A R s h=>by
  obtain⟨p1,p2,p3,p4,p5⟩:=s;obtain⟨hl,h⟩:=h;have f2:=AutoSeq1.sub_tuple_tuple
  wp_walk using AutoSeq1.wpAny_loadPart' hl
  exact⟨_,rfl,h⟩
theorem wH(l:Addr)(items:Array Value)(n:Nat)(x:Int)(u:Tok)(dd:Option Addr)(sl:Array (Option Value))(h0:items.isEmpty=false)(h1:¬ (decide (x < -(2^63)) || decide (x ≥ 2^63))=true)(h2:(x == 1)=false)(h3:¬ x<=0)(h4:¬ (items.size:Int)*x > (2^63-1) / 8)(h5:Builtin.Tuple.tupleTooMany ((items.size:Int)*x)=false)(h6:(List.foldl (fun x1 x2=>x1++x2) #[] (List.replicate x.toNat items)).size<=sizeLine) :
  Meets (Builtin.«tuple.__mul__» ⟨[.ref l,.int x u],[]⟩) (fun _ R s=>s.heap.get? l=some { cls:=.type "tuple",dict:=dd,data:=.seq items n,slots:=sl }/\R (.ok (.ret (.ref s.heap.objs.size))) { s with heap:=s.heap.push { cls:=.type "tuple",data:=.seq (List.foldl (fun x1 x2=>x1++x2) #[] (List.replicate x.toNat items)) } }) :=
 .of_wp fun prog w A R s h=>by
  obtain⟨p1,p2,p3,p4,p5⟩:=s;obtain⟨hl,h⟩:=h;have f2:=AutoSeq1.sub_tuple_tuple
  wp_walk using AutoSeq1.wpAny_loadPart' hl
  rw [if_neg h1]
  wp_walk using AutoSeq1.wpAny_loadPart' hl
  rw [if_neg h4]
  wp_walk
  exact⟨_,rfl,h⟩
def z9(K:Frag):R2:=fun x y H Q=>∃ l xs,∃ k:Nat,x = .ref l/\y = .int k/\SqT K H l xs/\xs≠[]/\1<=k/\xs.length*k<=100000/\(k=1->Q (.ref l) H)/\(k≠1->∀ p,H p=none->Q (.ref p) (jr H p (.tup (List.replicate k xs).flatten)))
theorem wj{X:Cx}:OpR X (binaryOp .Mult) (z9 X.K):=by
 intro pins s σ H x y v u Q I rx ry h;obtain⟨l,xs,k,rfl,rfl,hH,hne,hk,hz,q1,q2⟩:=h;cases rx;obtain⟨t,rfl⟩:=ry;obtain⟨its,rv,p,hz2⟩:=I.tuple hH;obtain⟨⟨cls,dd,data,sl⟩,e,hc,n,hd⟩:=p;simp only at hc hd;subst hc hd;have hl:=rv.length;have sz:100000<=sizeLine:=by rw [sizeLine_eq];decide
 have go:∀ z:Int,z=(k:Int)->wpAny (model X.prog X.w) X.A (call (.builtin "tuple.__mul__") [.ref l,.int z t]) (EP X pins σ Q) X.xe s:=by
  rintro z hzk;by_cases h1:k=1
  ·rw [show z=1 by first|lia|omega];exact call_meets F.slot_tuple_mul ⟨_,e,rfl⟩ F.entry_tuple_mul (F.args_tuple_mul_2 _ _) (wI l its.toArray n t dd sl) ⟨e,⟨.ref l,H,I,rfl,q1 h1⟩⟩
  ·have f0:∀ m:Nat,List.foldl (fun x1 x2=>x1++x2) #[] (List.replicate m its.toArray)=(List.replicate m its).flatten.toArray:=fun m=>by
    have:=mo its m [];rw [List.nil_append] at this;exact this
   have zk:z.toNat=k:=by first|lia|omega
   have im:(its.toArray.size:Int)*z=((xs.length*k:Nat):Int):=by rw [hzk,af,← hl];exact (Int.natCast_mul _ _).symm
   refine call_meets F.slot_tuple_mul ⟨_,e,rfl⟩ F.entry_tuple_mul (F.args_tuple_mul_2 _ _) (wH l its.toArray n z t dd sl ?_ ?_ ?_ ?_ ?_ ?_ ?_) ⟨e,?_⟩
   ·cases its with
    | nil=>exact absurd (cc.mp hl) hne
    | cons=>rfl
   ·simp;have:xs.length*k ≥ k:=cn _ (dr.mpr hne)
    (first|lia|omega)
   ·have:z≠1:=by first|lia|omega
    simpa using this
   ·(first|lia|omega)
   ·rw [im]
    (first|lia|omega)
   ·unfold Builtin.Tuple.tupleTooMany;rw [im];exact decide_eq_false (by first|lia|omega)
   ·rw [f0,zk,af,oW,← hl,cF]
    (first|lia|omega)
   ·rw [f0,zk];refine⟨.ref _,_,I.laid (o:=.tup (List.replicate k xs).flatten) (t':=s.toks) (fun b u e=>Heap.get?_push_of_some _ e) (aj _) ⟨?_,(List.replicate k its).flatten,rv.rep k,⟨_,Heap.get?_push_size _ rfl,rfl,_,rfl⟩⟩,rfl,q2 h1 _ I.fresh⟩;rw [oW,cF]
    (first|lia|omega)
 generalize hzk:(k:Int)=z;refine wpAny_binaryOp_repeat_ref (T := "tuple") (U := "int") (by decide) ⟨_,e,rfl⟩ (fun s'=>typeIs_int s' z t) tm F.fills_int_mul F.slot_int_rmul yk F.slot_int_index.lookup
  (call_meets F.slot_int_rmul (typeIs_int s z t) F.entry_int_rmul (F.args_int_rmul_2 _ _) (vZ z t l its.toArray n dd sl) ⟨e,rfl,⟨_,e,rfl⟩,go z hzk.symm⟩)
end L2
namespace Ex8
open PySem PySem.W PySem.Calls PyProof.Rows
section
variable{prog:Program}{w:World}{A:Around}{E:Value->Shared->Prop}{s:Shared}{K:Frag}{x C:Addr}{ox:Obj}{od:Option Obj}{name:Str}{expr:Bool}{Q:Value->Shared->Prop}{v:Value}
theorem qr:builtinKind "BaseException.__getattribute__" = some .slot:=by decide +kernel
theorem oz:splitId "BaseException.__getattribute__" = some ("BaseException", "__getattribute__"):=by decide +kernel
theorem A7(X:K.In s.heap)(I:InstAt s.heap x ox C od)(hga:findIn K (.ref C) "__getattribute__" = some (some (.builtin "BaseException.__getattribute__")))(hgt:findIn K (.ref C) "__getattr__" = some none)(hb:mroIn K C (.type "BaseException")=some true)
  (hf:findObj K C od name=some (.value v)) (hh:handedIn v=true) (h:Q v { s with toks:=s.toks+1 }):wpAny (model prog w) A (getAttr (.ref x) name expr) Q E s:=by
 obtain⟨hh',g,d,t,os⟩:=s;have L0:=I.type (M:=model prog w);have L1:=looks_findIn (M:=model prog w) X hga;have L2:=looks_findIn (M:=model prog w) X hgt;have L3:=looks_find (M:=model prog w) X I hf;have sub:Looks (model prog w) hh' (isInstance (.ref x) (.type "BaseException")) true:=L0.andThen (looks_mroIn X hb);have f3:=F.attr_ValueError.ga.bind (.ref x);have hx0:(expr && onTheHeap (Value.builtin "BaseException.__getattribute__"))=false:=by cases expr <;> rfl
 have hx2:(Value.builtin "BaseException.__getattribute__" == Value.builtin "object.__getattribute__")=false:=by decide +kernel
 have hx1:(onTheHeap (Value.ref C) && Value.builtin "BaseException.__getattribute__" == Value.builtin "object.__getattribute__")=false:=by rw [hx2];rfl
 unfold getAttr getAttrBy;refine wpAny_bind (wpAny_mkText (wpAny_holding (wpAny_bind (L0.at (wpAny_bind (L1.at ?_))))));repeat (any_goals (first|assumption|with_reducible refine L2.at ?_|wp_step))
 refine codeAny_call_builtin F.attr_ValueError.ga.plain F.entry_bexc_ga (@check_slot (model prog w) _ _ ⟨hh',g,d,t+1,os⟩ "BaseException.__getattribute__" "BaseException" "__getattribute__" (.ref x) [.str name t] [] _ qr oz sub (F.args_bexc_ga (.ref x) (.str name t)) ?_);unfold Builtin.«object.__getattribute__»;have hv:=handedOut_of hh;repeat (any_goals (first|assumption|with_reducible refine L0.at ?_|with_reducible refine L3.at ?_|wp_step))
end
def sD:List Value:=[.type "ValueError",.type "Exception",.type "BaseException",.type "object"]
structure Xc (K:Frag)(C N:Addr)(cd:ClassData):Prop where
 cls:clsIn K C=some cd
 mro:cd.mro = .ref C :: .ref N::sD
 hd:cd.hasDict=true
 sa:findIn K (.ref C) "__setattr__" = some (some (.builtin "object.__setattr__"))
 ga:findIn K (.ref C) "__getattribute__" = some (some (.builtin "BaseException.__getattribute__"))
 gt:findIn K (.ref C) "__getattr__" = some none
section
variable{prog:Program}{w:World}{A:Around}{E:Value->Shared->Prop}{s:Shared}{K:Frag}{x C N:Addr}{ox:Obj}{od:Option Obj}{name:Str}{v:Value}{cd:ClassData}{R:Result->Shared->Prop}
theorem Xc.mr(c:Xc K C N cd){b:Value}{r:Bool}(h:(Value.ref C::Value.ref N::sD).contains b=r):mroIn K C b=some r:=by
 unfold mroIn;rw [c.cls,cD,c.mro,if_neg (by simp),h]
theorem A6{tk:Tok}(X:K.In s.heap)(I:InstAt s.heap x ox C od)(c:Xc K C N cd)(ht:findIn K (.ref C) name=some none)
  (h:wpAny (model prog w) A.in1 (Builtin.ObjectAttr.storeInOwnDict (.ref x) (.ref C) (.str name tk) name v false)
   (fun fin s'=>match fin with | .done f=>R (.ok f) s' | .again c'=>c'.quiet=true/\codeAny (model prog w) A c' R s') (fun e s'=>R (.error e) s') s) :
  codeAny (model prog w) A (.call (.builtin "object.__setattr__") ⟨[.ref x,.str name tk,v],[]⟩) R s:=by
 have SF:=PySem.F.store_ValueError;have sub:Looks (model prog w) s.heap (isInstance (.ref x) (.type "object")) true:=I.type.andThen (looks_mroIn X (c.mr (by rw [aP,aP];rfl)));refine codeAny_call_builtin SF.slot.plain SF.entry (@check_slot (model prog w) _ _ s "object.__setattr__" "object" "__setattr__" (.ref x) [.str name tk,v] [] _ SF.kind SF.split sub (SF.args (.ref x) (.str name tk) v) ?_);have hm:Looks (model prog w) s.heap (mroOf (.ref C)) cd.mro:=(looks_clsIn X c.cls).andThen .now;rw [osa_eq,refuse_eq];refine wpAny_bind (wpAny_bind (I.type.here (wpAny_bind (hm.here ?_))));rw [c.mro,refuseLoop_ref,refuseLoop_ref,show refuseLoop (.ref x) "__setattr__" sD=pure () from SF.passes _];exact wpAny_pure (wpAny_bind (I.type.here (wpAny_bind ((looks_findIn X ht).here (wpAny_bind (Looks.now.here h))))))
theorem A5{vs:Array Value}{Q:Unit->Shared->Prop}(X:K.In s.heap)(hx:s.heap.get? x=some { cls:=.ref C,data:=.fields vs })(c:Xc K C N cd)(ht:findIn K (.ref C) name=some none)
  (h:∀ h',h'.get? x=some { cls:=.ref C,dict:=some s.heap.objs.size,data:=.fields vs }->h'.Ns1 s.heap.objs.size (fun y=>if y=name then some v else none)->(∀ b o,b≠x->s.heap.get? b=some o->h'.get? b=some o)->Q () { s with heap:=h',toks:=s.toks+2 }) :
  wpAny (model prog w) A (setAttr (.ref x) name v) Q E s:=by
 have J:InstAt s.heap x { cls:=.ref C,data:=.fields vs } C none:=⟨hx,rfl,rfl,trivial⟩;refine set_plain X J c.sa (A6 (s:={ s with toks:=s.toks+1 }) X J c ht ?_);obtain⟨hh,g,d,t,os⟩:=s;have Lc:=looks_clsIn (M:=model prog w) X c.cls;have hx:hh.get? x=some { cls:=.ref C,data:=.fields vs }:=hx;have hx1:(hh.push { cls:=.type "dict",data:=.dict #[] }).get? x=some { cls:=.ref C,data:=.fields vs }:=Heap.get?_push_of_some _ hx;have hxs:x≠hh.objs.size:=aA (Heap.lt_size hx);unfold Builtin.ObjectAttr.storeInOwnDict;refine wpAny_bind (wpAny_pure (wpAny_bind (wpAny_bind (wpAny_loadPart hx (wpAny_bind (Lc.at ?_))))));rw [c.hd];refine wpAny_bind (wpAny_alloc' ?_);refine wpAny_bind (wpAny_update' hx1 ?_);refine wpAny_pure ?_;have hgd:((hh.push { cls:=.type "dict",data:=.dict #[] }).update x fun o=>{ cls:=o.cls,dict:=some hh.objs.size,data:=o.data,slots:=o.slots }).get? hh.objs.size
   = some { cls:=.type "dict",data:=.dict #[] } :=
  (Heap.get?_update_ne _ _ _ _ hxs.symm).trans (Heap.get?_push_at rfl rfl)
 have hnd:((hh.push { cls:=.type "dict",data:=.dict #[] }).update x fun o=>{ cls:=o.cls,dict:=some hh.objs.size,data:=o.data,slots:=o.slots }).Ns hh.objs.size (fun _=>none) :=
  ⟨_,#[],_,hgd,rfl,fun e he=>absurd he (by simp),fun _=>rfl⟩
 show wpAny _ _ (Builtin.ObjectAttr.storeInDict hh.objs.size (.str name t) name v) _ _ _;unfold Builtin.ObjectAttr.storeInDict Builtin.ObjectAttr.newKeyGuard;refine wpAny_bind (wpAny_pure (wpAny_bind (wpAny_nsSet1 (Heap.Ns1.of_empty hnd) fun h' hn' hs=>?_)));obtain⟨oD,esD,epD,hoD,hdD,hcD⟩:=hn'.count (Within.cons name v Within.nil);refine wpAny_bind (wpAny_lookBehind hoD (by rw [hdD];exact pastItsLine_dict (az hcD (by rw [aJ,cq,sizeLine_eq];(first|lia|omega)))) ?_);have hx':h'.get? x=some { cls:=.ref C,dict:=some hh.objs.size,data:=.fields vs }:=(hs.2 x hxs).trans (Heap.get?_update_self _ hx1 rfl);refine wpAny_pure (h h' hx' hn' fun b ob hbx hb=>?_);exact (hs.2 b (aA (Heap.lt_size hb))).trans ((Heap.get?_update_ne _ _ _ _ hbx).trans (Heap.get?_push_of_some _ hb))
end
def lA(K:Frag)(C N:Addr):Bool:=match K.lookup C with
 | some ⟨.type "type",_,.cls cd,sl⟩=>(match cd.mro,sl.toList with
  | .ref C'::bm,[_,_,_,_,some (.builtin n),_]=>C' == C && n == "ValueError.__new__" && !cd.hasDel && bm == .ref N::sD && tailIn K sD bm
  | _,_=>false)
 | _=>false
theorem pD{K:Frag}{h:Heap}{C N:Addr}(X:K.In h)(e:lA K C N=true):OwnTail h sD (.ref N::sD)/\∃ nm q Ns bs hdct sn sub ab col dd k0 k1 k2 k3 k5,h.get? C=some (excClassObj nm q C Ns bs (.ref N::sD) hdct sn sub ab col dd k0 k1 k2 k3 k5 "ValueError.__new__"):=by
 unfold lA at e;split at e
 ·rename_i dd cd sl ho;split at e
  ·rename_i C' bm k0 k1 k2 k3 n k5 hm hs;simp only [ax,beq_iff_eq,bo] at e;obtain⟨⟨⟨⟨rfl,rfl⟩,hdel⟩,rfl⟩,ht⟩:=e;obtain⟨nm,bs,mro,ns,qn,hd,sn,sub,ab,col,del⟩:=cd;dsimp only at hm hdel;subst hm hdel;have hsl:sl = #[k0,k1,k2,k3,some (.builtin "ValueError.__new__"),k5]:=by
    obtain⟨l⟩:=sl;simp only at hs;rw [hs]
   subst hsl;exact⟨tail_of_in X ht,nm,qn,ns,bs,hd,sn,sub,ab,col,dd,k0,k1,k2,k3,k5,X _ _ ho⟩
  ·cases e
 ·cases e
def t5(h:Heap)(C:Addr)(rest:List Value):Heap:=(h.push { cls:=.type "tuple",data:=.seq rest.toArray }).push { cls:=.ref C,data:=.fields #[.ref h.objs.size,.none,.none,.none,.bool false,.none] }
section
variable{prog:Program}{w:World}{A:Around}{E:Value->Shared->Prop}{K:Frag}{C N f:Addr}{h:Heap}{g:Array GenState}{d:Drawn}{t:Nat}{os:OsState}{rest:List Value}
theorem jK{b:Addr}{o:Obj}(e:h.get? b=some o):(t5 h C rest).get? b=some o:=Heap.get?_push_of_some _ (Heap.get?_push_of_some _ e)
theorem o6:(t5 h C rest).get? (h.objs.size+1)=some { cls:=.ref C,data:=.fields #[.ref h.objs.size,.none,.none,.none,.bool false,.none] }:=by unfold t5;heap_get
theorem qw{Q:Fin->Shared->Prop}(X:K.In h)(e:lA K C N=true)(hi:findIn K (.ref C) "__init__" = some (some (.ref f)))(hf:typeIn K (.ref f)=some (.type "function"))(hrest:rest.length<=sizeLine)
  (hq:wpAny (model prog w) A (call (.ref f) (.ref (h.objs.size+1)::rest)) (fun r s'=>r = .none/\Q (.done (.ret (.ref (h.objs.size+1)))) s') E ⟨t5 h C rest,g,d,t,os⟩) :
  wpAny (model prog w) A (Builtin.«type.__call__» ⟨.ref C::rest,[]⟩) Q E ⟨h,g,d,t,os⟩:=by
 obtain⟨T,nm,q,Ns,bs,hdct,sn,sub,ab,col,dd,k0,k1,k2,k3,k5,hC⟩:=pD X e;have F:=PySem.F.excBase_ValueError;repeat (first|with_reducible refine wpAny_loadPart_at hC ?_|with_reducible refine wpAny_madeBy_exc hC ?_|wp_step)
 refine codeAny_call_builtin_code (Code.quiet_builtin _ F.quiet) (wpAny_check_new_subT F T hC ?_);refine codeAny_exc_new_subT F T hC ?_ hrest;show wpAny _ _ _ _ _ _;have X1:K.In (t5 h C rest):=X.keeps fun b o e=>jK e;have hC1:=jK (C:=C) (rest:=rest) hC;have hget:=o6 (h:=h) (C:=C) (rest:=rest);have hcC:(Value.ref C::Value.ref N::sD).contains (.ref C)=true:=by simp
 have L1:=looks_findIn (M:=model prog w) X1 hi;have L2:=bind_fn (M:=model prog w) X1 (.ref (h.objs.size+1)) hf;show wpAny _ _ _ _ _ ⟨t5 h C rest,g,d,t,os⟩;unfold isInstance;repeat (first|with_reducible refine wpAny_loadPart_at hget ?_|(with_reducible refine wpAny_isSubtype_exc hC1 ?_;rw [hcC])|wp_step)
 show wpAny _ _ (typeLookup (.ref C) _) _ _ _;refine L1.at ?_;refine wpAny_holding (wpAny_bind (L2.at (wpAny_bind (wpAny_mono hq (fun r s' hr=>?_) fun _ _ x=>x))));obtain⟨rfl,hQ⟩:=hr
 wp_walk
 exact hQ
theorem zM{Q:Value->Shared->Prop}(X:K.In h)(e:lA K C N=true)(hi:findIn K (.ref C) "__init__" = some (some (.ref f)))(hf:typeIn K (.ref f)=some (.type "function"))(hrest:rest.length<=sizeLine)
  (hq:wpAny (model prog w) (A.under (.builtin "type.__call__" ⟨.ref C::rest,[]⟩)) (call (.ref f) (.ref (h.objs.size+1)::rest)) (fun r s'=>r = .none/\Q (.ref (h.objs.size+1)) s') E ⟨t5 h C rest,g,d,t,os⟩) :
  wpAny (model prog w) A (call (.ref C) rest) Q E ⟨h,g,d,t,os⟩:=by
 obtain⟨T,nm,q,Ns,bs,hdct,sn,sub,ab,col,dd,k0,k1,k2,k3,k5,hC⟩:=pD X e;have f1:=tc_lookup;have f2:=tc_bind (.ref C);have hT:(⟨h,g,d,t,os⟩:Shared).TypeIs (.ref C) "type" := ⟨_,hC,rfl⟩;refine wpAny_call (codeAny_of_tree ?_);show wpAny _ _ (callAny (.ref C) _) _ _ _;repeat (any_goals (first|assumption|with_reducible refine wpAny_loadPart_at hC ?_|wp_step))
 refine⟨rfl,?_⟩;exact codeAny_call_builtin_at (Code.quiet_builtin _ (by decide +kernel)) entry_typeCall (wpAny_check_type_call_sub hC (qw X e hi hf hrest hq))
end
section
variable{prog:Program}{w:World}{A:Around}{E:Value->Shared->Prop}{s:Shared}{K:Frag}{x C N:Addr}{ox:Obj}{od:Option Obj}{cd:ClassData}
theorem xX{Q:Option Value->Shared->Prop}(X:K.In s.heap)(I:InstAt s.heap x ox C od)(c:Xc K C N cd)(ha:findIn K (.ref C) "__class__" = some (some (.builtin "object.__class__")))
  (hn:specialIn K (.builtin "object.__class__") "__get__" = some (some (.builtin "getset_descriptor.__get__"))) (htk:takesIn K (.builtin "object.__class__")=some true)
  (h:Q (some (.ref C)) { s with toks:=s.toks+1 }):wpAny (model prog w) A (getAttr? (.ref x) "__class__") Q E s:=by
 have hf:findObj K C od "__class__" = some (.bind (.builtin "getset_descriptor.__get__") (.builtin "object.__class__")):=by
  unfold findObj;rw [c.cls,cD,ha,cD];simp [hn,htk]
 have hm:mroIn K C (.type "object")=some true:=c.mr (by rw [aP,aP];rfl);obtain⟨hh',g,d,t,os⟩:=s;have L0:=I.type (M:=model prog w);have L1:=looks_findIn (M:=model prog w) X c.ga;have L2:=looks_findIn (M:=model prog w) X c.gt;have L3:=looks_find (M:=model prog w) X I hf;have sub:Looks (model prog w) hh' (isInstance (.ref x) (.type "BaseException")) true:=L0.andThen (looks_mroIn X (c.mr (by rw [aP,aP];rfl)));have f3:=F.attr_ValueError.ga.bind (.ref x);have hx2:(Value.builtin "BaseException.__getattribute__" == Value.builtin "object.__getattribute__")=false:=by decide +kernel
 have hx1:(onTheHeap (Value.ref C) && Value.builtin "BaseException.__getattribute__" == Value.builtin "object.__getattribute__")=false:=by rw [hx2];rfl
 unfold getAttr? getAttrBy?;refine wpAny_bind (wpAny_mkText ?_);unfold getAttrBy;repeat (any_goals (first|assumption|with_reducible refine L0.at ?_|with_reducible refine L1.at ?_|with_reducible refine L2.at ?_|wp_step))
 refine codeAny_call_builtin F.attr_ValueError.ga.plain F.entry_bexc_ga (@check_slot (model prog w) _ _ ⟨hh',g,d,t+1,os⟩ "BaseException.__getattribute__" "BaseException" "__getattribute__" (.ref x) [.str "__class__" t] [] _ qr oz sub (F.args_bexc_ga (.ref x) (.str "__class__" t)) ?_);unfold Builtin.«object.__getattribute__»;repeat (any_goals (first|assumption|with_reducible refine L0.at ?_|with_reducible refine L3.at ?_|wp_step))
 refine class_get (s:=⟨hh',g,d,t+1,os⟩) X I hm ?_;have hv:handedOut (.ref C)=pure (.ref C):=handedOut_of rfl;repeat (any_goals (first|assumption|wp_step))
theorem p9(c:Xc K C N cd)(ha:findIn K (.ref C) "__class__" = some (some (.builtin "object.__class__")))
  (hn:specialIn K (.builtin "object.__class__") "__get__" = some (some (.builtin "getset_descriptor.__get__"))) (htk:takesIn K (.builtin "object.__class__")=some true) :
  KitX K (.ref x) (.ref C) (fun h=>∃ ox od,InstAt h x ox C od) where
 ty:=fun _ _ _ ⟨ox,od,I⟩=>I.type
 it:=fun _ _ X _=>by
  have hcD:=c.cls;unfold clsIn at hcD;split at hcD
  ·rename_i c' d' cd' sl' ho;intro A' Q' E' s' k q;unfold isType loadHead;exact wpAny_bind (wpAny_loadPart (k _ _ (X _ _ ho)) (wpAny_pure q))
  ·cases hcD
 ne:=fun h tp dd its n sl X htp=>by
  have hcD:=c.cls;refine bA.mpr fun q=>?_;have e:C=tp:=Value.ref.inj (beq_iff_eq.mp q);subst e;unfold clsIn at hcD;split at hcD
  ·rename_i c' d' cd' sl' ho;have z:=(X _ _ ho).symm.trans htp;cases z
  ·cases hcD
 ca:=fun X ⟨ox,od,I⟩ k=>xX X I c ha hn htk k
end
section
variable{prog:Program}{w:World}{A:Around}{E:Value->Shared->Prop}{K:Frag}{C N f:Addr}{h:Heap}{g:Array GenState}{d:Drawn}{t:Nat}{os:OsState}
theorem pB{Q:Fin->Shared->Prop}(X:K.In h)(e:lA K C N=true)(hi:findIn K (.ref C) "__init__" = some (some (.builtin "ValueError.__init__")))
  (hq:∀ h' u,(∀ b o,h.get? b=some o->h'.get? b=some o)->h'.get? (h.objs.size+1)=some { cls:=.ref C,data:=.fields #[.ref u,.none,.none,.none,.bool false,.none] }->Q (.done (.ret (.ref (h.objs.size+1)))) ⟨h',g,d,t,os⟩) :
  wpAny (model prog w) A (Builtin.«type.__call__» ⟨[.ref C],[]⟩) Q E ⟨h,g,d,t,os⟩:=by
 obtain⟨T,nm,q,Ns,bs,hdct,sn,sub,ab,col,dd,k0,k1,k2,k3,k5,hC⟩:=pD X e;have F:=PySem.F.excBase_ValueError;repeat (first|with_reducible refine wpAny_loadPart_at hC ?_|with_reducible refine wpAny_madeBy_exc hC ?_|wp_step)
 refine codeAny_call_builtin_code (Code.quiet_builtin _ F.quiet) (wpAny_check_new_subT F T hC ?_);refine codeAny_exc_new_subT F T hC ?_ (by size_fits);show wpAny _ _ _ _ _ _;have X1:K.In (t5 h C []):=X.keeps fun b o e=>jK e;have hC1:=jK (C:=C) (rest:=[]) hC;have hget:=o6 (h:=h) (C:=C) (rest:=[]);have hcC:(Value.ref C::Value.ref N::sD).contains (.ref C)=true:=by simp
 have L1:=looks_findIn (M:=model prog w) X1 hi;have T1:=T.keeps (h':=t5 h C []) fun b o e=>jK e;show wpAny _ _ _ _ _ ⟨t5 h C [],g,d,t,os⟩;unfold isInstance;repeat (first|with_reducible refine wpAny_loadPart_at hget ?_|(with_reducible refine wpAny_isSubtype_exc hC1 ?_;rw [hcC])|wp_step)
 show wpAny _ _ (typeLookup (.ref C) _) _ _ _;refine L1.at ?_;refine wpAny_holding (wpAny_bind (wpAny_of_eq (F.init.bind _) ?_));refine wpAny_bind (wpAny_call (codeAny_call_builtin F.init.plain F.initEntry (wpAny_check_init_subT F T1 hC1 hget rfl ?_)))
 wp_walk
 refine hq _ (t5 h C []).objs.size (fun b o hb=>?_) ?_
 ·rw [Heap.get?_update_other _ _ (cj (cH (Heap.lt_size hb)))];exact Heap.get?_push_of_some _ (jK hb)
 ·rw [Heap.get?_update_self _ (Heap.get?_push_of_some _ hget) rfl];rfl
theorem xW{Q:Value->Shared->Prop}(X:K.In h)(e:lA K C N=true)(hi:findIn K (.ref C) "__init__" = some (some (.builtin "ValueError.__init__")))
  (hq:∀ h' u,(∀ b o,h.get? b=some o->h'.get? b=some o)->h'.get? (h.objs.size+1)=some { cls:=.ref C,data:=.fields #[.ref u,.none,.none,.none,.bool false,.none] }->Q (.ref (h.objs.size+1)) ⟨h',g,d,t,os⟩) :
  wpAny (model prog w) A (call (.ref C) []) Q E ⟨h,g,d,t,os⟩:=by
 obtain⟨T,nm,q,Ns,bs,hdct,sn,sub,ab,col,dd,k0,k1,k2,k3,k5,hC⟩:=pD X e;have f1:=tc_lookup;have f2:=tc_bind (.ref C);have hT:(⟨h,g,d,t,os⟩:Shared).TypeIs (.ref C) "type" := ⟨_,hC,rfl⟩;refine wpAny_call (codeAny_of_tree ?_);show wpAny _ _ (callAny (.ref C) _) _ _ _;repeat (any_goals (first|assumption|with_reducible refine wpAny_loadPart_at hC ?_|wp_step))
 refine⟨rfl,?_⟩;exact codeAny_call_builtin_at (Code.quiet_builtin _ (by decide +kernel)) entry_typeCall (wpAny_check_type_call_sub hC (pB X e hi fun h' u k n=>hq h' u k n))
end
end Ex8
namespace L2
open PySem PySem.Spec PyProof.Rows Ex8
def nv(C:Addr)(d:Option Addr)(u:Array Value):Obj:={ cls:=.ref C,dict:=d,data:=.fields u }
abbrev fx(u:Addr):Array Value:=#[.ref u,.none,.none,.none,.bool false,.none]
def jW(a C:Addr)(d:Option Addr)(u:Array Value):HO:=.ext fun h=>h.get? a=some (nv C d u)
theorem o7{P:Program}{w:World}{H:Hp}{h:Heap}{a C:Addr}{u:Array Value}{d:Option Addr}(e:h.get? a=some (nv C d u)):ObjOk P w H h a (jW a C d u):=⟨e,⟨_,e⟩,fun _ _ p k=>k _ p⟩
theorem kO{P:Program}{w:World}{H:Hp}{h:Heap}{a C:Addr}{u:Array Value}{d:Option Addr}(ok:HOk P w H h)(e:H a=some (jW a C d u)):h.get? a=some (nv C d u):=(show ObjOk P w H h a (jW a C d u) from ok a _ e).1
section
variable{X:Cx}{pins:List (Addr×Obj)}{σ:St}{H:Hp}{s:Shared}{h':Heap}{e dx C:Addr}{u:Array Value}{fs:List (Str×V)}
theorem Inv.exn{rest:List Value}(I:Inv X pins σ H s):Inv X pins σ (jr H (s.heap.objs.size+1) (jW (s.heap.objs.size+1) C none (fx s.heap.objs.size))) { s with heap:=t5 s.heap C rest } :=
 I.laid (t':=s.toks) (fun b o q=>jK q) (bN _) (o7 o6)
theorem Inv.exn0(I:Inv X pins σ H s)(k:∀ b o,s.heap.get? b=some o->h'.get? b=some o)(h1:h'.get? (s.heap.objs.size+1)=some (nv C none u)):Inv X pins σ (jr H (s.heap.objs.size+1) (jW (s.heap.objs.size+1) C none u)) { s with heap:=h' } :=
 I.laid (t':=s.toks) k (bN _) (o7 h1)
theorem Inv.xdict{t':Nat}(I:Inv X pins σ H s)(he:H e=some (jW e C none u))(hdx:s.heap.objs.size<=dx)(k:∀ b o,b≠e->s.heap.get? b=some o->h'.get? b=some o)(h1:h'.get? e=some (nv C (some dx) u))(h2:∃ mA,h'.Ns1 dx mA/\∀ f,RelO (fs.lookup f) (mA f)) :
  Inv X pins σ (jr (jr H e (jW e C (some dx) u)) dx (.xd fs)) { s with heap:=h',toks:=t' }:=by
 have hn:H dx=none:=I.hok.fresh hdx;have ned:e≠dx:=jo he hn;have nb:∀ b,H b=none->b≠e:=fun b z q=>by rw [q,he] at z;cases z
 have lt:∀ b o,s.heap.get? b=some o->b≠dx:=fun b o q z=>absurd (Heap.lt_size q) (by rw [z];exact cC.mpr hdx);have other:∀ b (o:HO),H b=some o->b≠e->jr (jr H e (jW e C (some dx) u)) dx (.xd fs) b=some o:=fun b o q ne=>by
  rw [jh (jo q hn),jh ne,q]
 have net:∀ b xs,H b=some (.tup xs)->b≠e:=fun b xs q z=>by rw [z,he] at q;cases q
 have neo:∀ b y,H b=some (.own y)->b≠e:=fun b xs q z=>by rw [z,he] at q;cases q
 refine I.step (ch:=[]) (fun b hb=>absurd hb ah) (fun b o _ _ _ q z=>k b o (nb b z) q) (fun b o _ _ _ q z=>⟨o.slots,k b o (nb b z) q⟩) (fun b o _ q z=>?_) (fun b o _ q=>?_) (fun b xs q=>other b _ q (net b xs q)) (fun b o v q=>other b _ q fun z=>by rw [z,he] at q;cases q)
  (fun b ps q=>⟨#[],by rw [Array.append_empty];exact other b _ q fun z=>by rw [z,he] at q;cases q⟩) (fun m q=>?_) (fun b o q=>?_) I.bare
 ·rw [jh (lt b o q),jh (nb b z)];exact z
 ·by_cases z:b=e
  ·exact⟨_,by rw [z];exact h1⟩
  ·exact⟨o,k b o z q⟩
 ·obtain⟨o,es,ep,q1,q2⟩:=q;exact⟨o,es,ep,k _ o (nb _ I.free) q1,q2⟩
 ·by_cases z:b=dx
  ·rw [z,ji] at q;cases q;rw [z];exact h2
  ·rw [jh z] at q;by_cases z':b=e
   ·rw [z',ji] at q;cases q;rw [z'];exact o7 h1
   ·rw [jh z'] at q;refine (I.hok b o q).stay (fun c v hc r=>k c v ?_ r) (fun c r=>other c _ r (neo c _ r)) (fun c xs r=>other c _ r (net c xs r));rcases hc with rfl|hc
    ·exact z'
    ·exact neo c _ hc
end
section
variable{X:Cx}{pins:List (Addr×Obj)}{σ:St}{H:Hp}{s:Shared}{e dx C N:Addr}{u:Array Value}{fs:List (Str×V)}{cd:ClassData}{f:Str}{v y:V}{A:Around}{E:Value->Shared->Prop}
theorem vg{C N:Addr}:(Value.ref C::Value.ref N::sD).contains (.type "BaseException")=true:=by rw [aP,aP];rfl
theorem pC{u':Value}{Q:Unit->Shared->Prop}(I:Inv X pins σ H s)(he:H e=some (jW e C none u))(c:Xc X.K C N cd)(n:kG X.K C f)(ry:RelV y u')
  (h:∀ dx s',H dx=none->dx≠e->Inv X pins σ (jr (jr H e (jW e C (some dx) u)) dx (.xd [(f,y)])) s'->Q () s'):wpAny (model X.prog X.w) A (setAttr (.ref e) f u') Q E s:=by
 have hn:H s.heap.objs.size=none:=I.hok.fresh (aj _);refine A5 I.kIn (kO I.hok he) c n fun h' h1 h2 k=>h s.heap.objs.size _ hn (fun z=>jo he hn z.symm) (I.xdict he (aj _) k h1 ⟨_,h2,fun g=>?_⟩);show RelO (List.lookup g [(f,y)]) (if g=f then some u' else none);by_cases q:g=f
 ·rw [if_pos q,q];simp only [List.lookup,beq_self_eq_true];exact ry
 ·have hb:(g == f)=false:=beq_eq_false_iff_ne.mpr q;rw [if_neg q];simp only [List.lookup,hb];trivial
theorem pE{b:Bool}{Q:Value->Shared->Prop}(I:Inv X pins σ H s)(he:H e=some (jW e C (some dx) u))(hd:H dx=some (.xd fs))(c:Xc X.K C N cd)(n:kG X.K C f)(l:fs.lookup f=some v)
  (h:∀ u s',Inv X pins σ H s'->RelV v u->Q u s'):wpAny (model X.prog X.w) A (getAttr (.ref e) f b) Q E s:=by
 obtain⟨mA,n1,r⟩:=(show ObjOk X.prog X.w H s.heap dx (.xd fs) from I.hok dx _ hd);obtain⟨w,hw,rw'⟩:=RelO.some_of (v:=v) (o:=mA f) (by rw [← l];exact r f);obtain⟨od,ho,hl⟩:=n5 n1;exact A7 (ox:=nv C (some dx) u) (od:=some od) I.kIn ⟨kO I.hok he,rfl,rfl,ho⟩ c.ga c.gt (c.mr vg) (PySem.W.findObj_own (by unfold PySem.W.hasDictIn;rw [c.cls];exact c.hd) n rfl (by rw [hl,hw])) (tN rw') (h w _ (I.tok _) rw')
structure Xi (K:Frag)(C N:Addr)(cd:ClassData):Prop extends Xc K C N cd where
 ha:PySem.W.findIn K (.ref C) "__class__" = some (some (.builtin "object.__class__"))
 hn:PySem.W.specialIn K (.builtin "object.__class__") "__get__" = some (some (.builtin "getset_descriptor.__get__"))
 htk:PySem.W.takesIn K (.builtin "object.__class__")=some true
theorem t7{c:Value}{b:Bool}{d:Option Addr}{Q:Value->Shared->Prop}(I:Inv X pins σ H s)(he:H e=some (jW e C d u))(hd:∀ dx,d=some dx->∃ fs,H dx=some (.xd fs))(k:Xi X.K C N cd)(q:PySem.W.kitOne X.K (.ref C) c=some b)(h:∀ tk,Q (.bool b) { s with toks:=tk }) :
  wpAny (model X.prog X.w) A (call (.builtin "isinstance") [.ref e,c]) Q E s:=by
 refine PySem.W.kia_one (p9 k.toXc k.ha k.hn k.htk) I.kIn ?_ q (fun z=>nomatch z) h;have g:=kO I.hok he;cases d with
 | none=>exact⟨_,none,g,rfl,rfl,trivial⟩
 | some dx =>
  obtain⟨fs,hd⟩:=hd dx rfl;obtain⟨mA,⟨o,_,_,ho,_⟩,_⟩:=(show ObjOk X.prog X.w H s.heap dx (.xd fs) from I.hok dx _ hd);exact⟨_,some o,g,rfl,rfl,ho⟩
end
def zO(K:Frag)(ta:TE)(f:Str):TE:=fun σ H Q=>ta σ H fun x H1=>∃ a C N cd dx u fs v,x = .ref a/\H1 a=some (jW a C (some dx) u)/\H1 dx=some (.xd fs)/\Xc K C N cd/\kG K C f/\fs.lookup f=some v/\Q v H1
def z5(K:Frag)(ta tv:TE)(f:Str):TS:=fun D σ H=>tv σ H fun y H1=>ta σ H1 fun x H2=>∃ a C N cd u,x = .ref a/\H2 a=some (jW a C none u)/\Xc K C N cd/\kG K C f /\
 ∀ dx,H2 dx=none->dx≠a->D.nx σ (jr (jr H2 a (jW a C (some dx) u)) dx (.xd [(f,y)]))
def vT(C:Addr):TE:=fun _ H Q=>∀ x u,H x=none->Q (.ref x) (jr H x (jW x C none (fx u)))
section
variable{X:Cx}{o e value:Expr}{f:Str}{pos pos' tpos:Pos}{ta tv:TE}
theorem we(he:PE X e ta)(hb:attributeBase e f X.env (eval e X.env)=eval e X.env):PE X (.Attribute e f pos) (zO X.K ta f):=by
 intro pins s σ H Q I h;refine xj hb (jv (he pins s σ H _ I h) fun u s1 ⟨x,H1,I1,rx,a,C,N,cd,dx,t,fs,v,ex,ea,ed,c,n,l,q⟩=>?_);subst ex;obtain rfl:u=Value.ref a:=rx;exact pE I1 ea ed c n l fun u' s2 I2 ru=>⟨v,H1,I2,ru,q⟩
theorem v7(ha:PE X o ta)(hv:PE X value tv)(hs:swapsWith value (some (.Attribute o f pos')) pos.line X.env=pure false):PS X (.Assign [.Attribute o f pos'] value pos) (z5 X.K ta tv f):=by
 intro pins s σ H D I h;refine plainObj_wpAny_Assign_Attribute (jv (hv pins s σ H _ I h) fun u s1 ⟨y,H1,I1,ry,q⟩=>jv (ha pins s1 σ H1 _ I1 q) fun ov s2 ⟨x,H2,I2,rx,a,C,N,cd,t,ex,ea,c,n,q2⟩=>?_) hs;subst ex;obtain rfl:ov=Value.ref a:=rx;exact pC I2 ea c n ry fun dx s3 hd ne I3=>⟨σ,_,I3,q2 dx hd ne⟩
end
section
variable{X:Cx}{CX:rF}{k:Nat}{f C N:Addr}{fd:FuncData}{ps:List Str}{sp:Sp}{dvs:List V}{ds:List Value}{E:XK}{x m:Str}{p pos apos:Pos}{e o:Expr}{es:List Expr}{ta:TE}{t:TA}
theorem nV{pins:List (Addr×Obj)}{σ:St}{H:Hp}{s:Shared}{Q:VK}{us:List Value}{vs:List V}(em:lA X.K C N=true)(hi:PySem.W.findIn X.K (.ref C) "__init__" = some (some (.ref f)))(hf:PySem.W.typeIn X.K (.ref f)=some (.type "function"))
  (F:FnOk X.prog X.w X.K X.mg X.base CX k f fd ps sp) (hr:Room (k+1) X.A) (hb:Binds X.K fd ps ds) (hd:Vals dvs ds) (hx:kF CX X E) (I:Inv X pins σ H s) (r:Vals vs us) (hl:vs.length<=100)
  (h:∀ x u,H x=none->s.heap.objs.size<=x->sp (.ref x::(vs++dvs)) (jr H x (jW x C none (fx u))) (fun v H2=>v = .non/\Q (.ref x) H2) E) :
  wpAny (model X.prog X.w) X.A (call (.ref C) us) (EP X pins σ Q) X.xe s:=by
 have hq:=h (s.heap.objs.size+1) s.heap.objs.size (I.hok.fresh (bN _)) (bN _);have I2:=Inv.exn (C:=C) (rest:=us) I;have r2:Vals (V.ref (s.heap.objs.size+1)::(vs++dvs)) (Value.ref (s.heap.objs.size+1)::(us++ds)):=.cons rfl (r.append hd);have hl':(Value.ref (s.heap.objs.size+1)::us++ds).length=ps.length:=by
  have e:=r2.length;rw [F.len _ _ _ _ hq] at e;exact e.symm
 have hu:us.length<=sizeLine:=by rw [← r.length,sizeLine_eq];(first|lia|omega)
 refine zM (h:=s.heap) (g:=s.gens) (d:=s.drawn) (t:=s.toks) (os:=s.os) I.kIn em hi hf hu (wpAny_call (codeAny_mono (F.run _ X.stack _ _ ⟨Value.ref (s.heap.objs.size+1)::us,[]⟩ (Value.ref (s.heap.objs.size+1)::(us++ds)) _ _ E (hr.make C us [])
  (I2.env0.make C us []) (hb _ (Value.ref (s.heap.objs.size+1)::us) I2.kIn hl') r2 hq) fun r s' hq'=>?_))
 cases r with
 | error e=>exact hx pins σ _ _ e s' I2 hq'
 | ok fl =>
  cases fl with
  | ret u =>
   obtain⟨v,H',I3,rv,ev,q3⟩:=I2.after hq';subst ev;exact⟨rv,⟨V.ref (s.heap.objs.size+1),H',I3,rfl,q3⟩⟩
  | next=>exact False.elim hq'
  | brk=>exact False.elim hq'
  | cont=>exact False.elim hq'
theorem sW(em:lA X.K C N=true)(hi:PySem.W.findIn X.K (.ref C) "__init__" = some (some (.builtin "ValueError.__init__")))(hk:PySem.W.keepIn X.K (.ref C)=true)(hg:Gl X x)(hm:X.mg x=some (.ref C))(hdb:(x == ("__debug__" : Str))=false:=by decide) :
  PE X (.Call (.Name x p) [] [] pos) (vT C):=by
 intro pins s σ H Q I h;refine wpAny_Call_Name_kw (kN I hg hm ?_ hdb);refine PySem.W.callWith_K0 I.kIn hk ?_;exact xW (h:=s.heap) (g:=s.gens) (d:=s.drawn) (t:=s.toks) (os:=s.os) I.kIn em hi fun h' u k n=>⟨V.ref (s.heap.objs.size+1),_,I.exn0 k n,rfl,h _ u (I.hok.fresh (bN _))⟩
end
end L2
set_option maxHeartbeats 1000000
namespace L2
open PySem PySem.Spec PyProof.Rows
theorem KV.at:∀{kvs:List (mW×V)} {vs:List (mW×Value)} {j:Nat} {kv:mW×V},KV kvs vs->kvs[j]? = some kv->∃ u,vs[j]? = some (kv.1,u)/\RelV kv.2 u
 | _,_,0,_,.cons (b:=q) r t,h=>by cases h;exact⟨q.2,by rw [r.1];rfl,r.2⟩
 | _,_,j+1,_,.cons r t,h=>by
  rw [ci] at h;obtain⟨u,e1,e2⟩:=KV.at t h;exact⟨u,by rw [ci];exact e1,e2⟩
section
variable{X:Cx}
def Ae:R2:=fun x y H Q=>∃ p kvs k v,x = .ref p/\y=kV k/\H p=some (.dK kvs)/\(k,v)∈kvs/\Q v H
theorem wN:IxR X Ae:=by
 intro value slice pins s σ H x y v u Q I rx ry h hs;obtain⟨p,kvs,k,z,rfl,rfl,hq,he,q⟩:=h;cases rx;obtain⟨hz,hn,vs,rel,dd⟩:kvs.length<=sizeLine/\(p == sysModules)=false/\∃ vs,KV kvs vs/\s.heap.DictOf (lL X.prog X.w) p vs:=I.hok p _ hq;obtain⟨j,hj⟩:=List.mem_iff_getElem?.mp he;obtain⟨w,ew,rw'⟩:=rel.at hj;have hk:(lL X.prog X.w).is k u=true:=by
  cases k with
  | inl i=>obtain⟨t,rfl⟩:=ry;exact tG i t
  | inr x=>obtain⟨t,rfl⟩:=ry;exact tF x t
 have dd':=dd;obtain⟨o,es,ep,g1,g2,g3,g4,g5,nd⟩:=dd';have hat:valueAt vs k=some w:=by
  unfold valueAt;have hm:(k,w)∈vs:=aK ew;clear dd g3 g4 g5 rel ew;induction vs with
  | nil=>cases hm
  | cons a vs ih =>
   rw [aY,bO] at nd;rcases ai.mp hm with e|e
   ·subst e;simp
   ·have:a.1≠k:=fun z=>nd.1 (by rw [z];exact bQ.mpr ⟨_,e,rfl⟩);rw [List.find?_cons];rw [decide_eq_false this];exact ih nd.2 e
 have fin:EP X pins σ Q w { s with toks:=s.toks+1 }:=⟨z,H,I.tok _,rw',q⟩;exact subscriptTail_builtinR (x:=w) (T := "dict") ⟨o,g1,g2.1⟩ PySem.F.slot_dict_getitem.lookup (wpAny_getItem_of (Q:=fun r s'=>r=w/\EP X pins σ Q r s') hk dd.mapOf hat ⟨rfl,fin⟩) hs
end
end L2
namespace L2
open PySem PySem.Spec PyProof.Rows
variable{X:Cx}
def Bv:V->Option Int->Option Int->Hp->VK->Prop:=fun x lo hi H Q=>∃ z,x = .str z/\z.length<=sizeLine/\Q (.str (StrLaws.sliceText z lo hi)) H
theorem rT{v:Value}{o:Option Int}(h:IsPart v o):∃ l:Option (Int×Tok),v=partValue l/\l.map (·.1)=o:=by
 cases h with
 | none=>exact⟨none,rfl,rfl⟩
 | int i t=>exact⟨some (i,t),rfl,rfl⟩
theorem sl_str:SlR X Bv:=by
 intro pins s σ H x v vl vu lo hi sl Q I rx hs pl pu h;obtain⟨z,rfl,hz,q⟩:=h;obtain⟨t,rfl⟩:=(show ∃ t,v=Value.str z t from rx);obtain⟨l,rfl,el⟩:=rT pl;obtain⟨u,rfl,eu⟩:=rT pu;refine⟨"str",_,F.slot_str_getitem.lookup,rfl,?_⟩;refine wpAny_getItem_str_slice (l:=l) (u:=u) (st:=none) hs (by rfl) ?_;have fin:∀(y:Str) (t':Tok) (k:Nat),y=StrLaws.sliceText z lo hi->EP X pins σ Q (.str y t') { s with toks:=k }:=fun y t' k e=>⟨.str y,H,I.tok k,⟨t',rfl⟩,by rw [e];exact q⟩;unfold sliceMade slicePicked;rw [el,eu];unfold StrLaws.sliceText at fin;split
 ·rename_i c;exact fin z t s.toks (if_pos c).symm
 ·rename_i c;refine⟨?_,fin _ _ _ (if_neg c).symm⟩;have h1:=bF (fun i=>z.cps[i]?) (Builtin.Str.strSliceIndices lo hi 1 z.length);have h2:=sliceIndices_le lo hi z.length;show (List.filterMap (fun i=>z.cps[i]?) (Builtin.Str.strSliceIndices lo hi 1 z.length)).toArray.size<=sizeLine;rw [af]
  (first|lia|omega)
def v3:V->List V->Hp->VK->Prop:=fun x vs H Q=>∃ a b,x = .str a/\vs=[.str b]/\Q (.bl (Txt.startswith a b)) H
theorem tx:zJ X "str.startswith" v3:=by
 intro pins s σ H x vs v us Q I rx rv h;obtain⟨a,b,rfl,rfl,q⟩:=h;obtain⟨t,rfl⟩:=(show ∃ t,v=Value.str a t from rx);obtain⟨u,rfl,ru⟩:=rv.one;obtain⟨t2,rfl⟩:=(show ∃ t,u=Value.str b t from ru);exact call_gives F.slot_str_startswith rfl F.entry_str_startswith (F.args_str_startswith_2 _ _) (gives_str_startswith a b t t2) ⟨.bl _,H,I,rfl,q⟩
def qH:V->List V->Hp->VK->Prop:=fun x vs H Q=>∃ a b,x = .str a/\vs=[.str b]/\a.length<=sizeLine/\(b.length == 0)=false/\∀ p,H p=none->Q (.ref p) (jr H p (.tup [.str (Txt.partition a b).1,.str (Txt.partition a b).2.1,.str (Txt.partition a b).2.2]))
theorem oQ:zJ X "str.partition" qH:=by
 intro pins s σ H x vs v us Q I rx rv h;obtain⟨a,b,rfl,rfl,ha,hb,q⟩:=h;obtain⟨t,rfl⟩:=(show ∃ t,v=Value.str a t from rx);obtain⟨u,rfl,ru⟩:=rv.one;obtain⟨t2,rfl⟩:=(show ∃ t,u=Value.str b t from ru);refine call_meets F.slot_str_partition rfl F.entry_str_partition (F.args_str_partition_2 _ _) (meets_str_partition a b t t2 hb ha) ?_;have fin:∀(p q' r:Str) (u1 u2 u3:Tok) (k:Nat),(p,q',r)=Txt.partition a b->EP X pins σ Q (.ref s.heap.objs.size) { s with heap:=s.heap.push { cls:=.type "tuple",data:=.seq #[.str p u1,.str q' u2,.str r u3] },toks:=k }:=fun p q' r u1 u2 u3 k e=>by
  refine⟨.ref s.heap.objs.size,_,I.laid (t':=k) (o:=.tup [.str p,.str q',.str r]) (fun b ob q=>Heap.get?_push_of_some _ q) (aj _) ?_,rfl,?_⟩
  ·exact⟨by show 3<=sizeLine;decide,[.str p u1,.str q' u2,.str r u3],.cons ⟨_,rfl⟩ (.cons ⟨_,rfl⟩ (.cons ⟨_,rfl⟩ .nil)),IsTup.new _ _⟩
  ·have:=q _ (I.hok.fresh (aj _));rw [← e] at this;exact this
 show wants _ _ _ (match Builtin.Str.occurrences a b 0 a.length 1 with|i::tail=>_|[]=>_);unfold Txt.partition at fin;split
 ·rename_i i tail e;rw [e] at fin;exact fin _ _ _ _ _ _ _ rfl
 ·rename_i e;rw [e] at fin;exact fin _ _ _ _ _ _ _ rfl
def Af:List V->Hp->VK->Prop:=fun xs H Q=>∃ z n,xs=[.str z]/\intText? z=some n/\z.length<=640/\Q (.int n) H
theorem tT:CallR X (.type "int") Af:=by
 intro pins s σ H xs us Q I r h;obtain⟨z,n,rfl,hn,hz,q⟩:=h;obtain⟨u,rfl,ru⟩:=mB r;obtain⟨t,rfl⟩:=(show ∃ t,u=Value.str z t from ru);exact PySem.W.KIN.call_text hn hz ⟨.int n,H,I.tok _,⟨_,rfl⟩,q⟩
theorem kT:∀{zs:List Str} {k:Nat},Vals (zs.map V.str) (strsFrom k zs)
 | [],_=>.nil
 | z::zs,k=>.cons ⟨_,rfl⟩ kT
def yu:V->List V->Hp->VK->Prop:=fun x vs H Q=>∃ a b,x = .str a/\vs=[.str b]/\a.length+2<=sizeLine/\(b.length == 0)=false/\∀ p,H p=none->Q (.ref p) (jr H p (.lst ((Txt.split a b).map V.str)))
theorem uZ:zJ X "str.split" yu:=by
 intro pins s σ H x vs v us Q I rx rv h;obtain⟨a,b,rfl,rfl,ha,hb,q⟩:=h;obtain⟨t,rfl⟩:=(show ∃ t,v=Value.str a t from rx);obtain⟨u,rfl,ru⟩:=rv.one;obtain⟨t2,rfl⟩:=(show ∃ t,u=Value.str b t from ru);have hle:=split_le a b;have fin:∀(zs:List Str) (us:List Value) (k:Nat),zs=Txt.split a b->Vals (zs.map V.str) us->EP X pins σ Q (.ref s.heap.objs.size) { s with heap:=s.heap.push { cls:=.type "list",data:=.seq us.toArray },toks:=k }:=fun zs us k e r=>by
  refine⟨.ref s.heap.objs.size,_,I.laid (t':=k) (o:=.lst (zs.map V.str)) (fun b ob q=>Heap.get?_push_of_some _ q) (aj _) ?_,rfl,?_⟩
  ·exact⟨by rw [aH,e];(first|lia|omega),us,0,r,Heap.get?_push_size _ rfl⟩
  ·have:=q _ (I.hok.fresh (aj _));rw [← e] at this;exact this
 by_cases c1:(decide (a.length<b.length) || decide (Builtin.Str.strKind a<Builtin.Str.strKind b))=true
 ·have e:[a]=Txt.split a b:=by unfold Txt.split;rw [if_pos c1]
  refine call_meets F.slot_str_split rfl F.entry_str_split (F.args_str_split_2 _ _) (meets_str_split_cannot_occur a b t t2 c1) ?_;exact fin [a] [.str a t] s.toks e (.cons ⟨_,rfl⟩ .nil)
 ·have c1':(decide (a.length<b.length) || decide (Builtin.Str.strKind a<Builtin.Str.strKind b))=false:=by simpa using c1
  by_cases c2:(Builtin.Str.occurrences a b 0 a.length (a.length+1)).isEmpty=true
  ·have e:[a]=Txt.split a b:=by unfold Txt.split;rw [if_neg c1,if_pos c2]
   refine call_meets F.slot_str_split rfl F.entry_str_split (F.args_str_split_2 _ _) (meets_str_split_not_found a b t t2 c1' hb c2) ?_;exact fin [a] [.str a t] s.toks e (.cons ⟨_,rfl⟩ .nil)
  ·have e:Builtin.Str.partsBetween a (Builtin.Str.occurrences a b 0 a.length (a.length+1)) b.length=Txt.split a b:=by unfold Txt.split;rw [if_neg c1,if_neg c2]
   refine call_meets F.slot_str_split rfl F.entry_str_split (F.args_str_split_2 _ _) (meets_str_split_sep a b t t2 c1' hb (by simpa using c2) (by first|lia|omega) (by rw [e];(first|lia|omega))) ?_;exact fin _ _ _ e kT
end L2
namespace L2
open PySem PySem.Spec PyProof.Rows
variable{X:Cx}
def Cd(z:Str):It:=⟨fun i _=>i<z.cps.size,fun i H x H'=>H'=H/\∃ c,z.cps[i]? = some c/\x = .str ⟨#[c]⟩,fun i _=>i=z.cps.size⟩
theorem ud{P:Program}{w:World}{K:Frag}{tg:Expr}(it:Addr)(nm:String)(z:Str)(t:Tok)(hn:["enumerate", "zip", "dict_itemiterator", "dict_reverseitemiterator", "odict_iterator", "itertools.zip_longest", "itertools.pairwise"].contains nm=false)
  (W:∀ A:Around,A.handled=none->Walks P w A it [it] [it] z.cps.size (SignAt z) fun i h=>h.IsStrIter it nm z t i) (hs:∀(A:Around) (i:Nat) (s:Shared) (Q:Value->Shared->Prop) (E:Value->Shared->Prop),s.heap.IsStrIter it nm z t i->Q (.ref it) s->wpAny (model P w) A (pyIter (.ref it)) Q E s) :
  Turn P w K tg (Cd z) [it] it (fun i h=>h.IsStrIter it nm z t i) where
 mem:=by simp
 obj:=fun i h st b hb=>by
  have e:b=it:=by simpa using hb
  subst e;obtain⟨o,h1,h2,h3⟩:=st;exact⟨o,h1,fun v z=>by rw [h3] at z;cases z⟩
 keep:=fun i h h' ⟨o,h1,h2⟩ k=>⟨o,k it (by simp) _ h1,h2⟩
 item:=by
  intro X hP hw hK hc i pins s σ H E I hf st hg;subst hP hw hK;obtain⟨f0,f1,f2,f3,f4,f5⟩:=hf it (by simp);refine (W X.A (I.ok.hd hc)).item i s _ _ hg st fun v h' tk hv st' kk=>?_;obtain⟨c,u,hc',rfl⟩:=hv;have I1:Inv X pins σ H { s with heap:=h',toks:=tk }:=I.turned (fun b o hb e=>kk b o (by simpa using hb) e) f0 f1 f3 f4 f5;obtain⟨o,h1,h2,h3⟩:=id st';exact⟨_,rfl,oe (s:={ s with heap:=h',toks:=tk }) (n:=nm) h1 h2 h3 hn ⟨.str ⟨#[c]⟩,H,I1,⟨u,rfl⟩,⟨rfl,c,hc',rfl⟩,st',fun b hb=>(hf b hb).1⟩⟩
 done:=by
  intro X hP hw hK hc i pins s σ H E I hf st hg;subst hP hw hK;obtain⟨f0,f1,f2,f3,f4,f5⟩:=hf it (by simp);have hg:i=z.cps.size:=hg;subst hg;exact (W X.A (I.ok.hd hc)).done s _ _ st fun h' tk kk=>⟨rfl,I.turned (fun b o hb e=>kk b o (by simpa using hb) e) f0 f1 f3 f4 f5⟩
 self:=fun A i s Q E st h=>hs A i s Q E st h
theorem y4{tg:Expr}{pins:List (Addr×Obj)}{σ:St}{R:It->Hp->Prop}{H1:Hp}{s1:Shared}{v:Value}{z:Str}(I1:Inv X pins σ H1 s1)(r1:RelV (.str z) v)(q1:R (Cd z) H1):wpAny (model X.prog X.w) X.A (pyIter v) (A1 X pins σ tg R) X.xe s1:=by
 obtain⟨t,rfl⟩:=(show ∃ t,v=Value.str z t from r1);have fin:∀ nm:String,["enumerate", "zip", "dict_itemiterator", "dict_reverseitemiterator", "odict_iterator", "itertools.zip_longest", "itertools.pairwise"].contains nm=false->(∀ A:Around,A.handled=none->Walks X.prog X.w A s1.heap.objs.size [s1.heap.objs.size] [s1.heap.objs.size] z.cps.size (SignAt z) fun i h=>h.IsStrIter s1.heap.objs.size nm z t i) ->
   (∀(A:Around) (i:Nat) (s:Shared) (Q:Value->Shared->Prop) (E:Value->Shared->Prop),s.heap.IsStrIter s1.heap.objs.size nm z t i->Q (.ref s1.heap.objs.size) s->wpAny (model X.prog X.w) A (pyIter (.ref s1.heap.objs.size)) Q E s) ->
   A1 X pins σ tg R (.ref s1.heap.objs.size) { s1 with heap:=s1.heap.push { cls:=.type nm,data:=.fields #[.str z t,.int 0 0] } }:=fun nm hn W hs=>by
  refine⟨_,[s1.heap.objs.size],_,_,H1,rfl,I1.kept (t':=s1.toks) fun b o e=>Heap.get?_push_of_some _ e,ud _ nm z t hn W hs,⟨_,Heap.get?_push_size _ rfl,rfl,rfl⟩,fun b hb=>?_,q1⟩;rw [am.mp hb];exact I1.fpOk (aj _) (I1.hok.fresh (aj _))
 cases e:z.cps.all fun x=>decide (x<128) with
 | true=>exact wpAny_pyIter_ascii e (fin _ (by decide) (fun A hA=>Walks.strAscii hA _ z t) fun A i s Q E st h=>wpAny_pyIter_striter_ascii st h)
 | false=>exact wpAny_pyIter_wide e (fin _ (by decide) (fun A hA=>Walks.strWide hA _ z t) fun A i s Q E st h=>wpAny_pyIter_striter_wide st h)
def BV(K:Frag)(tl:TE):TI:=fun σ H R=>tl σ H fun x H1=>(∃ a,x = .ref a/\(((∃ xs,SqL K H1 a xs)/\R (CC K a) H1)\/((∃ xs,SqT K H1 a xs)/\R (CB K a) H1)))\/∃ z,x = .str z/\R (Cd z) H1
theorem CS{tg l:Expr}{tl:TE}(hl:PE X l tl):PI X tg l (BV X.K tl):=by
 intro pins s σ H R I h;refine jv (hl pins s σ H _ I h) fun v s1 ⟨x,H1,I1,r1,q1⟩=>?_;rcases q1 with⟨a,e,q1⟩|⟨z,e,q1⟩
 ·subst e;cases r1;have fp1:∀ b∈[s1.heap.objs.size],kH X pins H1 b:=fun b hb=>by
   have e:b=s1.heap.objs.size:=by simpa using hb
   subst e;exact I1.fpOk (aj _) (I1.hok.fresh (aj _))
  rcases q1 with⟨⟨xs,hq⟩,q⟩|⟨⟨xs,hq⟩,q⟩
  ·obtain⟨its,rv,p,hz⟩:=I1.list hq;exact wpAny_pyIter_list p.isList ⟨s1.heap.objs.size,[s1.heap.objs.size],_,_,H1,rfl,I1.kept (t':=s1.toks) fun b o e=>Heap.get?_push_of_some _ e,sI a _,⟨_,Heap.get?_push_size _ rfl,rfl,rfl⟩,fp1,q⟩
  ·obtain⟨its,rv,p,hz⟩:=I1.tuple hq;exact wpAny_pyIter_tuple (show s1.heap.IsTuple a its.toArray from p) ⟨s1.heap.objs.size,[s1.heap.objs.size],_,_,H1,rfl,I1.kept (t':=s1.toks) fun b o e=>Heap.get?_push_of_some _ e,qz a _,⟨_,Heap.get?_push_size _ rfl,rfl,rfl⟩,fp1,q⟩
 ·subst e;exact y4 I1 r1 q1
theorem wn:OpR X (binaryOp .Mult) (fun x y H Q=>∃ z n,x = .str z/\y = .int n/\z.length<=16 /\ -2^63<=n/\n<=1048576/\Q (.str (Txt.mul z n)) H):=by
 intro pins s σ H x y v u Q I rx ry h;obtain⟨z,n,rfl,rfl,h1,h2,h3,q⟩:=h;obtain⟨t,rfl⟩:=(show ∃ t,v=Value.str z t from rx);obtain⟨t',rfl⟩:=(show ∃ t,u=Value.int n t from ry);exact PySem.W.KXi.mul rfl h1 h2 h3 fun tk k _ _=>⟨.str _,H,I.tok k,⟨_,rfl⟩,q⟩
end L2
namespace Ex8
open PySem PySem.W PySem.Calls PyProof.Rows
def Tr(h:Heap)(e C:Addr)(dx:Option Addr)(T:Addr)(fl:Value):Prop:=∃ vs ts oT,h.get? e=some { cls:=.ref C,dict:=dx,data:=.fields vs }/\vs[1]? = some (.ref T)/\T≠e/\h.get? T=some oT/\oT.data = .fields ts/\ts[3]? = some fl
structure Kx (fs xs:List Addr)(h h':Heap):Prop where
 keep:∀ b o,h.get? b=some o->b ∉ fs->b ∉ xs->h'.get? b=some o
 slot:∀ b o,h.get? b=some o->b ∉ xs->∃ sl,h'.get? b=some { o with slots:=sl }
 size:h.objs.size<=h'.objs.size
theorem Kx.trans{fs xs ys zs:List Addr}{h h1 h2:Heap}(a:Kx fs xs h h1)(b:Kx fs ys h1 h2)(hx:∀ c∈xs,c∈zs)(hy:∀ c∈ys,c∈zs\/h.get? c=none):Kx fs zs h h2:=by
 have ny:∀ c o,h.get? c=some o->c ∉ zs->c ∉ ys:=fun c o e n z=>by
  rcases hy c z with q|q
  ·exact n q
  ·rw [e] at q;cases q
 refine⟨fun c o e n m=>b.keep c o (a.keep c o e n fun z=>m (hx c z)) n (ny c o e m),fun c o e m=>?_,az a.size b.size⟩;obtain⟨s1,e1⟩:=a.slot c o e fun z=>m (hx c z);obtain⟨s2,e2⟩:=b.slot c _ e1 (ny c o e m);exact⟨s2,e2⟩
section
variable{M:Model}{A:Around}{E:Value->Shared->Prop}{s:Shared}{base:Heap}{env:Env}{outer:List Env}{L e C T:Addr}{dx:Option Addr}{Q:Unit->Shared->Prop}{vs:Array Value}{fl:Value}
theorem nY{h:Heap}{l:List Env}(ff:h.FunFrames base l){b:Addr}{o:Obj}{us:Array Value}(hb:h.get? b=some o)(hd:o.data = .fields us):b ∉ l.filterMap (·.frame):=fun z=>by
 obtain⟨_,o',e1,e2⟩:=ff.mem z;rw [hb] at e1;cases e1;exact e2 us hd
theorem sK{h:Heap}{b:Addr}(hb:h.objs.size<=b):h.get? b=none:=by
 cases e:h.get? b with
 | none=>rfl
 | some o=>exact absurd (Heap.lt_size e) (cC.mpr hb)
theorem vp{head:Value}{hadNext:Bool}(hfr:A.frames=some (env::outer))(ff:s.heap.FunFrames base (env::outer))(hL:env.frame=some L)(he:s.heap.get? e=some { cls:=.ref C,dict:=dx,data:=.fields vs })(hv:1<vs.size)
  (h:∀ h' T',Kx ((env::outer).filterMap (·.frame)) [e] s.heap h'->s.heap.objs.size<=T'->Tr h' e C dx T' (rawInt ↑L)->Q () { s with heap:=h' }) :
  wpAny M A (do
   let a ← frameOf env
   let pl ← entryPlaceOf L hadNext
   let b ← EntryCells.newEntry head a Value.none (rawInt ↑L) Value.none pl
   setField (Value.ref e) 1 b) Q E s:=by
 have ne:=nY ff he rfl;refine wpAny_bind (wpAny_frameOf_fun hfr ff hL fun h1 so=>wpAny_bind (wpAny_entryPlaceOf fun pl hpl=>wpAny_bind ?_));obtain⟨so1,so2,so3⟩:=so;have e1:h1.get? e=some { cls:=.ref C,dict:=dx,data:=.fields vs }:=(so2 e ne).trans he;unfold EntryCells.newEntry newFields;refine wpAny_newObj_type ?_ (hpl.sizeOk5 ..);have lt:e≠h1.objs.size:=aA (Heap.lt_size e1);refine wpAny_setField (Heap.get?_push_of_some _ e1) rfl hv ?_;refine h _ h1.objs.size ⟨fun b o q n m=>?_,fun b o q m=>?_,?_⟩ ?_ ⟨vs.setIfInBounds 1 (.ref h1.objs.size),_,_,?_,?_,Ne.symm lt,(Heap.get?_update_ne _ _ _ _ (Ne.symm lt)).trans (Heap.get?_push_size _ rfl),rfl,rfl⟩
 ·have m':b≠e:=fun z=>m (am.mpr z);exact (Heap.get?_update_ne _ _ _ _ m').trans (Heap.get?_push_of_some _ ((so2 b n).trans q))
 ·have m':b≠e:=fun z=>m (am.mpr z);obtain⟨sl,q1⟩:=so3 b o q;exact⟨sl,(Heap.get?_update_ne _ _ _ _ m').trans (Heap.get?_push_of_some _ q1)⟩
 ·rw [Heap.size_update,Heap.size_push,so1];exact bN _
 ·rw [so1];exact aj _
 ·exact Heap.get?_update_self _ (Heap.get?_push_of_some _ e1) rfl
 ·simp [hv]
theorem wC(hfr:A.frames=some (env::outer))(ff:s.heap.FunFrames base (env::outer))(hL:env.frame=some L)(he:s.heap.get? e=some { cls:=.ref C,dict:=dx,data:=.fields vs })(hv:vs[1]? = some .none)
  (h:∀ h' T',Kx ((env::outer).filterMap (·.frame)) [e] s.heap h'->s.heap.objs.size<=T'->Tr h' e C dx T' (rawInt ↑L)->Q () { s with heap:=h' }):wpAny M A (noteFrame (.ref e) env) Q E s:=by
 unfold noteFrame;simp only [hL];refine wpAny_bind (wpAny_field he rfl hv ?_);rw [if_neg (by decide)];exact vp hfr ff hL he (aU.mp hv).1 h
theorem uU(hfr:A.frames=some (env::outer))(ff:s.heap.FunFrames base (env::outer))(hL:env.frame=some L)(t:Tr s.heap e C dx T .none)
  (h:∀ h' T',Kx ((env::outer).filterMap (·.frame)) [e,T] s.heap h'->s.heap.objs.size<=T'->Tr h' e C dx T' (rawInt ↑L)->Q () { s with heap:=h' }):wpAny M A (noteFrame (.ref e) env) Q E s:=by
 obtain⟨vs,ts,oT,he,hv,ne,hT,hd,h3⟩:=t;have nT:=nY ff hT hd;unfold noteFrame;simp only [hL];refine wpAny_bind (wpAny_field he rfl hv ?_);rw [if_pos (by rfl)];refine wpAny_bind (wpAny_field hT hd h3 ?_);rw [if_neg (by simp [rawInt])];refine wpAny_bind (wpAny_setField hT hd (aU.mp h3).1 ?_);have k:Kx ((env::outer).filterMap (·.frame)) [T] s.heap (s.heap.update T (Obj.mapFields fun x=>x.setIfInBounds 3 .none)):=by
  refine⟨fun b o q n m=>?_,fun b o q m=>?_,?_⟩
  ·exact (Heap.get?_update_ne _ _ _ _ fun z=>m (am.mpr z)).trans q
  ·exact⟨o.slots,(Heap.get?_update_ne _ _ _ _ fun z=>m (am.mpr z)).trans q⟩
  ·rw [Heap.size_update];exact aj _
 have he':(s.heap.update T (Obj.mapFields fun x=>x.setIfInBounds 3 .none)).get? e=some { cls:=.ref C,dict:=dx,data:=.fields vs }:=(Heap.get?_update_ne _ _ _ _ (Ne.symm ne)).trans he;refine vp (s:={ s with heap:=s.heap.update T (Obj.mapFields fun x=>x.setIfInBounds 3 .none) }) (base:=base) hfr ?_ hL he' (aU.mp hv).1 fun h' T' k' n t'=>h h' T' (k.trans k' ?_ ?_) ?_ t'
 ·refine Heap.FunFrames.of_keeps (fun b o q nf=>?_) ff;have:b≠T:=fun z=>by subst z;rw [hT] at q;cases q;exact nf _ hd
  exact⟨o,(Heap.get?_update_ne _ _ _ _ this).trans q,rfl⟩
 ·intro c hc;exact aq _ hc
 ·intro c hc;exact .inl (am.mp hc ▸ ar)
 ·have n:(s.heap.update T (Obj.mapFields fun x=>x.setIfInBounds 3 .none)).objs.size<=T':=n;rw [Heap.size_update] at n;exact n
theorem mU(t:Tr s.heap e C dx T fl)(h:∀ h',Kx [] [T] s.heap h'->Tr h' e C dx T .none->Q () { s with heap:=h' }):wpAny M A (setFlight (.ref e) none) Q E s:=by
 obtain⟨vs,ts,oT,he,hv,ne,hT,hd,h3⟩:=t;unfold setFlight;refine wpAny_bind (wpAny_field he rfl hv ?_);rw [if_pos (by rfl)];refine wpAny_setField hT hd (aU.mp h3).1 (h _ ⟨fun b o q n m=>?_,fun b o q m=>?_,?_⟩ ⟨vs,ts.setIfInBounds 3 .none,_,(Heap.get?_update_ne _ _ _ _ (Ne.symm ne)).trans he,hv,ne,Heap.get?_update_self _ hT (Obj.isFreed_of_fields (Obj.data_mapFields hd _)),Obj.data_mapFields hd _,?_⟩)
 ·exact (Heap.get?_update_ne _ _ _ _ fun z=>m (am.mpr z)).trans q
 ·exact⟨o.slots,(Heap.get?_update_ne _ _ _ _ fun z=>m (am.mpr z)).trans q⟩
 ·rw [Heap.size_update];exact aj _
 ·simp [(aU.mp h3).1]
theorem xV{K:Frag}{N:Addr}{Q:Flow->Shared->Prop}{x:Sem Value}(em:lA K C N=true)(hh:A.handled=none)
  (h:wpAny M A x (fun v s₁=>∃ e d u,v = .ref e/\K.In s₁.heap/\s₁.heap.get? e=some { cls:=.ref C,dict:=d,data:=.fields u }/\u[1]? = some .none/\E (.ref e) s₁) E s):wpAny M A (raiseStmt env (some x) none) Q E s:=by
 unfold raiseStmt;refine wpAny_bind (wpAny_mono h (fun v s₁=>?_) fun _ _ q=>q);rintro⟨e,d,u,rfl,X,he,hu,q⟩;obtain⟨hh',g,dd',t,os⟩:=s₁;obtain⟨T,nm,qn,Ns,bs,hdct,sn,sub,ab,col,dd,k0,k1,k2,k3,k5,hC⟩:=pD X em;have hcC:(Value.ref C::Value.ref N::sD).contains (.type "BaseException")=true:=by rw [aP,aP];rfl
 have he:hh'.get? e=some { cls:=.ref C,dict:=d,data:=.fields u }:=he;refine wpAny_bind (wpAny_pure (wpAny_bind (wpAny_holding ?_)));unfold excFromValue isExcClass isInstance;repeat (first|with_reducible refine wpAny_loadPart_at he ?_|with_reducible refine wpAny_loadPart_at hC ?_|(with_reducible refine wpAny_isSubtype_exc hC ?_;rw [hcC])|wp_step)
 rw [hu];refine wpAny_pure ?_;rw [if_neg (by decide)];exact wpAny_pure (wpAny_raiseNew_none hh q)
end
end Ex8
namespace L2
open PySem PySem.Spec PyProof.Rows Ex8
structure Fly (P:Program)(w:World)(outer:List Env)(H:Hp)(s:Shared)(e C:Addr)(dx:Option Addr)(H':Hp)(s':Shared):Prop where
 os:s'.os=s.os
 bare:AllBare s'.gens
 un:Un (nq outer) [] H H' s.heap s'.heap
 hok:HOk P w H' s'.heap
 new:s.heap.objs.size<=e
 fe:H' e=none
 tr:∃ T,Tr s'.heap e C dx T .none/\s.heap.objs.size<=T/\H' T=none
 size:s.heap.objs.size<=s'.heap.objs.size
def rE(P:Program)(w:World):rF:=fun outer H s E ev s'=>∃ e C dx H',ev = .ref e/\Fly P w outer H s e C dx H' s'/\E (.ref C) dx H'
def del(H:Hp)(e:Addr):Hp:=fun b=>if b=e then none else H b
theorem lS{H:Hp}{e:Addr}:del H e e=none:=if_pos rfl
theorem kB{H:Hp}{e b:Addr}(h:b≠e):del H e b=H b:=if_neg h
section
variable{P:Program}{w:World}{fs fs' xs:List Addr}{H H':Hp}{h h1 h2:Heap}{e C:Addr}{d:Option Addr}{u:Array Value}
theorem Un.kx(a:Un fs [] H H' h h1)(k:Kx fs' xs h1 h2)(hf:∀ b∈fs',b∈fs\/h.objs.size<=b)(hx:∀ b∈xs,h.objs.size<=b):Un fs [] H H' h h2:=by
 have nx:∀ b o,h.get? b=some o->b ∉ xs:=fun b o q z=>absurd (Heap.lt_size q) (cC.mpr (hx b z));refine⟨fun b o q n hb hx'=>k.keep b o (a.keep b o q n hb hx') (fun z=>?_) (nx b o q),fun b o q n hb hx'=>?_,a.free,fun b o q hx'=>?_,a.tups,a.frzs,a.tbls⟩
 ·rcases hf b z with y|y
  ·exact hb y
  ·exact absurd (Heap.lt_size q) (cC.mpr y)
 ·obtain⟨sl,q1⟩:=a.slot b o q n hb hx';obtain⟨sl',q2⟩:=k.slot b _ q1 (nx b o q);exact⟨sl',q2⟩
 ·obtain⟨o',q1⟩:=a.there b o q hx';obtain⟨sl',q2⟩:=k.slot b _ q1 (nx b o q);exact⟨_,q2⟩
theorem Un.up(a:Un fs [] H H' h h1)(he:h.objs.size<=e)(hn:H' e=none){o:HO}:Un fs [] H (jr H' e o) h h1:=by
 have ne:∀ b o',H' b=some o'->b≠e:=fun b o' q z=>by rw [z,hn] at q;cases q
 refine⟨a.keep,a.slot,fun b o q n hx=>?_,a.there,fun b xs q=>?_,fun b o' v q=>?_,fun b ps q=>?_⟩
 ·rw [jh (fun z=>absurd (Heap.lt_size q) (cC.mpr (by rw [z];exact he)))];exact a.free b o q n hx
 ·have:=a.tups b xs q;rw [jh (ne b _ this)];exact this
 ·have:=a.frzs b o' v q;rw [jh (ne b _ this)];exact this
 ·obtain⟨m,this⟩:=a.tbls b ps q;exact⟨m,by rw [jh (ne b _ this)];exact this⟩
theorem Un.del(a:Un fs [] H H' h h1)(he:H' e=some (jW e C d u)):Un fs [] H (del H' e) h h1:=by
 have ne:∀ b o',H' b=some o'->o'≠jW e C d u->b≠e:=fun b o' q n z=>by rw [z,he] at q;cases q;exact n rfl
 refine⟨a.keep,a.slot,fun b o q n hx=>?_,a.there,fun b xs q=>?_,fun b o' v q=>?_,fun b ps q=>?_⟩
 ·unfold L2.del;split
  ·rfl
  ·exact a.free b o q n hx
 ·have:=a.tups b xs q;rw [kB (ne b _ this (by intro z;cases z))];exact this
 ·have:=a.frzs b o' v q;rw [kB (ne b _ this (by intro z;cases z))];exact this
 ·obtain⟨m,this⟩:=a.tbls b ps q;exact⟨m,by rw [kB (ne b _ this (by intro z;cases z))];exact this⟩
theorem HOk.kx(x:HOk P w H h)(k:Kx fs xs h h1)(hf:∀ b∈fs,H b=none)(hx:∀ b∈xs,H b=none):HOk P w H h1:=fun a o q=>by
 have nn:∀ b,(b=a\/H b=some (.own a))->H b≠none:=fun b z y=>by
  rcases z with rfl|z
  ·rw [q] at y;cases y
  ·rw [z] at y;cases y
 exact (x a o q).stay (fun b u hb r=>k.keep b u r (fun z=>nn b hb (hf b z)) fun z=>nn b hb (hx b z)) (fun _ r=>r) fun _ _ r=>r
theorem HOk.up(x:HOk P w H h)(hn:H e=none)(he:h.get? e=some (nv C d u)):HOk P w (jr H e (jW e C d u)) h:=fun a o q=>by
 have ne:∀ b o',H b=some o'->b≠e:=fun b o' q z=>by rw [z,hn] at q;cases q
 by_cases z:a=e
 ·subst z;rw [ji] at q;cases q;exact o7 he
 ·rw [jh z] at q;exact (x a o q).stay (fun _ _ _ r=>r) (fun b r=>by rw [jh (ne b _ r)];exact r) fun b xs r=>by rw [jh (ne b _ r)];exact r
theorem HOk.del(x:HOk P w H h)(he:H e=some (jW e C d u)):HOk P w (del H e) h:=fun a o q=>by
 have ne:∀ b o',H b=some o'->o'≠jW e C d u->b≠e:=fun b o' q n z=>by rw [z,he] at q;cases q;exact n rfl
 by_cases z:a=e
 ·subst z;rw [lS] at q;cases q
 ·rw [kB z] at q;exact (x a o q).stay (fun _ _ _ r=>r) (fun b r=>by rw [kB (ne b _ r (by intro z;cases z))];exact r) fun b xs r=>by rw [kB (ne b _ r (by intro z;cases z))];exact r
end
section
variable{P:Program}{w:World}{K:Frag}{mg:Str->Option Value}{base:Heap}{N:List Str}{qual:Str}{scope:Scope}{f:Addr}{cd:Value}{A:Around}{outer:List Env}{s:Shared}{H:Hp}{E:XK}{pins:List (Addr×Obj)}{σ:St}{H1:Hp}{s1:Shared}{e C:Addr}{d:Option Addr}{u:Array Value}
theorem sR(I:Inv (lv (rE P w) P w K mg base N qual scope f cd A outer s H E) pins σ H1 s1)(he:H1 e=some (jW e C d u))(hu:u[1]? = some .none)(hn:s.heap.objs.size<=e)(hq:E (.ref C) d (del H1 e)):(lv (rE P w) P w K mg base N qual scope f cd A outer s H E).xe (.ref e) s1:=by
 have hg:=kO I.hok he;have fr:∀ b∈nq (lv (rE P w) P w K mg base N qual scope f cd A outer s H E).stack,b∈nq outer\/s.heap.objs.size<=b:=fun b hb=>by
  rcases ai.mp (show b∈s.heap.objs.size::nq outer from hb) with z|z
  ·exact .inr (cm z.symm)
  ·exact .inl z
 have sf:=I.stkFree;show wpAny _ _ (leaving _ _) _ _ _;unfold leaving;refine wpAny_bind (wC (base:=base) I.ok.frames I.stack rfl hg hu fun h' T k nT t=>mU t fun h2 k2 t2=>?_);have nT':s.heap.objs.size<=T:=az I.sz nT;have hT:H1 T=none:=I.hok.fresh nT;have eT:T≠e:=fun z=>by rw [z,he] at hT;cases hT
 have hTd:del H1 e T=none:=(kB eT).trans hT;refine⟨e,C,d,del H1 e,rfl,⟨I.os,I.bare,((I.base.del he).kx k fr fun b hb=>am.mp hb ▸ hn).kx k2 (fun b hb=>absurd hb ah) (fun b hb=>am.mp hb ▸ nT'),?_,hn,lS,⟨T,t2,nT',hTd⟩,az I.sz (az k.size k2.size)⟩,hq⟩;refine HOk.kx (HOk.kx (HOk.del I.hok he) k (fun b hb=>?_) fun b hb=>?_) k2 (fun b hb=>absurd hb ah) fun b hb=>?_
 ·have:=sf b hb;unfold L2.del;split
  ·rfl
  ·exact this
 ·rw [am.mp hb];exact lS
 ·rw [am.mp hb];exact hTd
theorem uG:kF (rE P w) (lv (rE P w) P w K mg base N qual scope f cd A outer s H E) E:=by
 rintro pins σ H1 s1 ev s' I ⟨e,C,d,H',rfl,F,hq⟩;have fr:∀ b∈nq (lv (rE P w) P w K mg base N qual scope f cd A outer s H E).stack,b∈nq outer\/s.heap.objs.size<=b:=fun b hb=>by
  rcases ai.mp (show b∈s.heap.objs.size::nq outer from hb) with z|z
  ·exact .inr (cm z.symm)
  ·exact .inl z
 have I2:=I.call' F.os F.un F.hok F.bare (fun b hb=>absurd hb ah);obtain⟨T0,t,nT0,hT0⟩:=F.tr;have sf:=I2.stkFree;have n0:s.heap.objs.size<=e:=az I.sz F.new;have nT0':s.heap.objs.size<=T0:=az I.sz nT0;have hx2:∀ b∈[e,T0],s.heap.objs.size<=b:=fun b hb=>by
  rcases ai.mp hb with z|z
  ·exact z ▸ n0
  ·exact am.mp z ▸ nT0'
 have hy2:∀ b∈[e,T0],H' b=none:=fun b hb=>by
  rcases ai.mp hb with z|z
  ·exact z ▸ F.fe
  ·exact am.mp z ▸ hT0
 show wpAny _ _ (leaving _ _) _ _ _;unfold leaving;refine wpAny_bind (uU (base:=base) I2.ok.frames I2.stack rfl t fun h' T k nT t=>mU t fun h2 k2 t2=>?_);have nT':s.heap.objs.size<=T:=az I2.sz nT;have hT:H' T=none:=I2.hok.fresh nT;have hx3:∀ b∈[T],s.heap.objs.size<=b:=fun b hb=>am.mp hb ▸ nT';have hy3:∀ b∈[T],H' b=none:=fun b hb=>am.mp hb ▸ hT;exact⟨e,C,d,H',rfl,⟨I2.os,I2.bare,(I2.base.kx k fr hx2).kx k2 (fun b hb=>absurd hb ah) hx3,(I2.hok.kx k sf hy2).kx k2 (fun b hb=>absurd hb ah) hy3,n0,F.fe,⟨T,t2,nT',hT⟩,az I2.sz (az k.size k2.size)⟩,hq⟩
end
section
variable{X:Cx}{pins:List (Addr×Obj)}{σ:St}{H:Hp}{s:Shared}
theorem sF{M:Model}{A:Around}{E:Value->Shared->Prop}{i:Nat}{x:Str}{v:V}{Q:Unit->Shared->Prop}(I:Inv X pins σ H s)(hN:X.N.Nodup)(hi:X.N[i]? = some x)(hk:X.env.scope.names.lookup x=some .local)(hv:σ[i]? = some (some v))
  (h:∀ s',Inv X pins (σ.set i none) H s'->Q () s'):wpAny M A (unbindName X.env x) Q E s:=by
 obtain⟨m,hn,hl⟩:=id I.loc;have hcls:(X.env.scope.kind == .class || (X.env.scope.kind == .module && X.env.locals != X.env.globals))=false:=by rw [I.ok.kind];rfl
 have cne:=I.cne;obtain⟨u,_,lk⟩:=hl i x v hi hv (.inl hk);have mx:m x=some u:=by
  rcases lk with⟨_,e⟩|⟨k,_⟩
  ·exact e
  ·have k:X.env.scope.names.lookup x=some .cell\/X.env.scope.names.lookup x=some .free:=k;rw [hk] at k;rcases k with k|k <;> cases k
 refine wpAny_unbindName_local hk hn mx hcls fun h' u' hn' hs=>?_;obtain⟨oL,_,_,hoL,_⟩:=id hn;have tracked:HOk X.prog X.w H h':=fun b ob e=>by
  refine (I.hok b ob e).stay (fun c w' hc q=>(hs.2 c ?_).trans q) (fun _ q=>q) fun _ _ q=>q;rintro rfl;rcases hc with rfl|hc
  ·rw [I.free] at e;cases e
  ·rw [I.free] at hc;cases hc
 refine h _ ⟨I.ok,I.os,I.bare,⟨fun b o e n hb hx=>?_,fun b o e n hb hx=>?_,I.base.free,fun b o e hx=>?_,I.base.tups,I.base.frzs,I.base.tbls⟩,⟨_,hn',fun j y v' e1 e2 e3=>?_⟩,fun y c e=>?_,I.free,I.freeC,fun p hp=>?_,tracked,by simpa using I.len⟩
 ·exact (hs.2 b (aA (ak (Heap.lt_size e) I.ok.above))).trans (I.base.keep b o e n hb hx)
 ·obtain⟨sl,e1⟩:=I.base.slot b o e n hb hx;exact⟨sl,(hs.2 b (aA (ak (Heap.lt_size e) I.ok.above))).trans e1⟩
 ·obtain⟨o',e1⟩:=I.base.there b o e hx;exact⟨o',(hs.2 b (aA (ak (Heap.lt_size e) I.ok.above))).trans e1⟩
 ·by_cases hj:j=i
  ·subst hj;rw [ay] at e2;rw [if_pos rfl] at e2;split at e2 <;> cases e2
  ·rw [au (Ne.symm hj)] at e2;obtain⟨u',r',q⟩:=hl j y v' e1 e2 e3;refine⟨u',r',?_⟩;rcases q with⟨k,e⟩|⟨k,c,e,z⟩
   ·refine .inl ⟨k,?_⟩;have:y≠x:=fun e=>hj (ng hN e1 (e ▸ hi));simp [this,e]
   ·exact .inr ⟨k,c,e,z.sameBut hs (cne y c e)⟩
 ·obtain⟨w',z⟩:=I.cell y c e;exact⟨w',z.sameBut hs (cne y c e)⟩
 ·obtain⟨e,n,ne,nf,d⟩:=I.pin p hp;exact⟨(hs.2 p.1 ne).trans e,n,ne,nf,d⟩
def Cx.suite(X:Cx)(A:Around)(E:Value->Shared->Prop):Cx:={ X with A:=A,calm:=false,xe:=E }
theorem Inv.suite{A:Around}(I:Inv X pins σ H s)(E:Value->Shared->Prop)(hA:A.frames=X.A.frames):Inv (X.suite A E) pins σ H s :=
 ⟨⟨I.ok.mod,I.ok.kind,I.ok.glob,I.ok.blt,I.ok.above,I.ok.inj,I.ok.has,I.ok.cab,fun z=>(by cases z),hA.trans I.ok.frames,I.ok.stk,I.ok.exf,I.ok.bs,I.ok.bsz,I.ok.noex,I.ok.exfs,I.ok.funs,I.ok.frf,I.ok.sr,I.ok.rn⟩,I.os,I.bare,I.base,I.loc,I.cell,I.free,I.freeC,I.pin,I.hok,I.len⟩
theorem Inv.unsuite{A:Around}{E:Value->Shared->Prop}(ok:X.Ok)(I:Inv (X.suite A E) pins σ H s):Inv X pins σ H s:=⟨ok,I.os,I.bare,I.base,I.loc,I.cell,I.free,I.freeC,I.pin,I.hok,I.len⟩
theorem vY{CX:rF}{k:Nat}{f:Addr}{fd:FuncData}{ps:List Str}{sp:Sp}{E:XK}{Q:VK}{us:List Value}{vs:List V}(F:FnOk X.prog X.w X.K X.mg X.base CX k f fd ps sp)(hr:Room k X.A)(hb:Binds X.K fd ps [])
  (I:Inv X pins σ H s) (hx:∀ e s',CX X.stack H s E e s'->X.xe e s') (r:Vals vs us) (h:sp vs H Q E):wpAny (model X.prog X.w) X.A (call (.ref f) us) (EP X pins σ Q) X.xe s:=by
 have hl:(us++[]).length=ps.length:=by rw [aD,← r.length];exact F.len _ _ _ _ h
 have hb':=hb s us I.kIn hl;rw [aD] at hb';refine wpAny_call (codeAny_mono (F.run X.A X.stack s H ⟨us,[]⟩ us vs Q E hr I.env0 hb' r h) fun r s' hq=>?_);cases r with
 | error e=>exact hx e s' hq
 | ok fl =>
  cases fl with
  | ret u=>exact I.after hq
  | next=>exact False.elim hq
  | brk=>exact False.elim hq
  | cont=>exact False.elim hq
def zP(X:Cx)(Nc:Addr)(i j gi:Nat)(t:TA):TS:=fun D σ H=>∃ fa k fd ps sp,σ[gi]? = some (some (.ref fa))/\FnOk X.prog X.w X.K X.mg X.base (rE X.prog X.w) k fa fd ps sp/\Binds X.K fd ps []/\PySem.W.keepIn X.K (.ref fa)=true/\Room k X.A /\
 t σ H fun vs H1=>sp vs H1 D.rt fun cls dx H'=>∃ C,cls = .ref C/\PySem.W.exmOne X.K (.ref C) (.ref Nc)=some true/\∀ e u,H' e=none->D.nx ((σ.set i (some (.ref e))).set j none) (jr H' e (jW e C dx u))
theorem yA{g n y cl:Str}{p cp rp p1 p2 p3 p4 hp pos:Pos}{a:Expr}{as:List Expr}{t:TA}{i j gi:Nat}{Nc:Addr}(hN:X.N.Nodup)(hgi:X.N[gi]? = some g)(hgv:xn X.env.scope g)(hgd:(g == ("__debug__" : Str))=false)(hgc:(g == ("__classdict__" : Str))=false)
  (hj:X.N[j]? = some n) (hlj:X.env.scope.names.lookup n=some .local) (hnd:(n == ("__debug__" : Str))=false) (hnc:(n == ("__classdict__" : Str))=false) (hi:X.N[i]? = some y) (hli:X.env.scope.names.lookup y=some .local) (hcl:Gl X cl) (hmc:X.mg cl=some (.ref Nc)) (hcd:(cl == ("__debug__" : Str))=false)
  (ha:∀ E',PA (X.wish E') (a::as) t) (hs:starEach (a::as) X.env=(false,eval a X.env)::starEach as X.env) (hpl:(backTo cp (starEach as X.env)).any (·.1)=false) (hst:X.stack=X.env::X.outer/\X.env.frame=some X.env.locals) (hij:i≠j) :
  PS X (.Try [.Return (some (.Call (.Name g p) (a::as) [] cp)) rp] [.ExceptHandler (some (.Name cl p1)) (some n) [.Assign [.Name y p2] (.Name n p3) p4] hp] [] [] pos) (zP X Nc i j gi t):=by
 intro pins s σ H D I ⟨fa,k,fd,ps,sp,hfa,F,hb,hk,hr,h⟩;refine wpAny_Try_except ?_;generalize hE:(fun (e:Value) (s₁:Shared)=>wpAny (model X.prog X.w) X.A (noteFrame e X.env) (fun x s₂=>wpAny (model X.prog X.w) X.A (setFlight e none) (fun x s₃=>wpAny (model X.prog X.w) X.A (handleBy e X.env [.ExceptHandler (some (.Name cl p1)) (some n) [.Assign [.Name y p2] (.Name n p3) p4] hp]) (SP X pins D) X.xe s₃) X.xe s₂) X.xe s₁)=E';obtain⟨hst,hlo⟩:=hst;have hx:∀ H1 s2,Inv (X.wish E') pins σ H1 s2->∀ ev s',rE X.prog X.w X.stack H1 s2 (fun cls dx H'=>∃ C,cls = .ref C/\PySem.W.exmOne X.K (.ref C) (.ref Nc)=some true/\∀ e u,H' e=none->D.nx ((σ.set i (some (.ref e))).set j none) (jr H' e (jW e C dx u))) ev s'->E' ev s':=by
  rintro H1 s2 I1 ev s' ⟨e,C,d,H',rfl,Y,C',hc,hm,hd⟩;cases hc;rw [← hE];have I1:=I1.unwish;have I2:=I1.call' Y.os Y.un Y.hok Y.bare (fun b hb=>absurd hb ah);obtain⟨T0,t0,nT0,hT0⟩:=Y.tr;have sf:=I2.stkFree;have fr:∀ b∈nq X.stack,b∈nq X.stack\/s2.heap.objs.size<=b:=fun b hb=>.inl hb;have hx2:∀ b∈[e,T0],s2.heap.objs.size<=b:=fun b hb=>by
   rcases ai.mp hb with z|z
   ·exact z ▸ Y.new
   ·exact am.mp z ▸ nT0
  have hy2:∀ b∈[e,T0],H' b=none:=fun b hb=>by
   rcases ai.mp hb with z|z
   ·exact z ▸ Y.fe
   ·exact am.mp z ▸ hT0
  have hfr:=I2.ok.frames;have hff:=I2.stack;rw [hst] at hfr hff;refine uU (base:=X.base) hfr hff hlo t0 fun h1 T k1 nT t1=>mU t1 fun h2 k2 t2=>?_;rw [← hst] at k1;have hT:H' T=none:=I2.hok.fresh nT;have nT':s2.heap.objs.size<=T:=az Y.size nT;have hx3:∀ b∈[T],s2.heap.objs.size<=b:=fun b hb=>am.mp hb ▸ nT';have hy3:∀ b∈[T],H' b=none:=fun b hb=>am.mp hb ▸ hT;have un2:=(Y.un.kx k1 fr hx2).kx k2 (fun b hb=>absurd hb ah) hx3;have ok2:=(I2.hok.kx k1 sf hy2).kx k2 (fun b hb=>absurd hb ah) hy3;have I3:Inv X pins σ H' { s' with heap:=h2 }:=I1.call' (s':={ s' with heap:=h2 }) Y.os un2 ok2 Y.bare (fun b hb=>absurd hb ah);obtain⟨vs,ts,oT,he2,hv2,ne2,hT2,hd2,h32⟩:=id t2;refine wpAny_handleBy_cons (codeAny_handlers_test ?_) (by intro z;cases z);refine kN (X:=X.suite (X.A.mark (some (.ref e))) fun _ _=>True) (I3.suite _ rfl) hcl hmc ?_ hcd;have Lt:PySem.W.Looks (model X.prog X.w) h2 (typeOf (.ref e)) (.ref C):=by
   intro A' Q' E' s'' k q;unfold typeOf;dsimp only;exact wpAny_bind (wpAny_loadPart (k _ _ he2) (wpAny_pure q))
  refine (PySem.W.exm_one I3.kIn Lt hm).here ?_;refine codeAny_handlers_suite_as (mU (s:={ s' with heap:=h2 }) t2 fun h4 k4 t4=>?_);have un4:=un2.kx k4 (fun b hb=>absurd hb ah) hx3;have ok4:=ok2.kx k4 (fun b hb=>absurd hb ah) hy3;obtain⟨us,ts4,oT4,he4,hv4,ne4,hT4,hd4,h34⟩:=id t4;have I4:Inv X pins σ (jr H' e (jW e C d us)) { s' with heap:=h4 }:=I1.call' (s':={ s' with heap:=h4 }) Y.os (un4.up Y.new Y.fe) (ok4.up Y.fe he4) Y.bare (fun b hb=>absurd hb ah);refine jU (i:=j) (v:=.ref e) I4 hN hj (.inl hlj) rfl (fun s5 I5=>?_) (.inr hlj);have jl:j<σ.length:=by rw [I4.len];exact (av.mp hj).1
  have e1:(σ.set j (some (V.ref e)))[j]? = some (some (.ref e)):=by rw [bu jl]
  have cmp:∀ E2,wpAny (model X.prog X.w) (X.A.mark (some (.ref e))) (execs [.Assign [.Name y p2] (.Name n p3) p4] X.env) (fun f s6=>f = .next/\Inv X pins ((σ.set j (some (.ref e))).set i (some (.ref e))) (jr H' e (jW e C d us)) s6) E2 s5:=fun E2=>by
   refine wpAny_mono (jC (lc (X:=X.suite (X.A.mark (some (.ref e))) E2) (i:=i) (pos:=p4) (pos':=p2) hN hi (.inl hli) (lh (X:=X.suite (X.A.mark (some (.ref e))) E2) (pos:=p3) hj (.inl hlj) hnd hnc) rfl (.inr hli)) pins s5 _ _ { nx:=fun σ' H2=>σ'=(σ.set j (some (.ref e))).set i (some (.ref e))/\H2=jr H' e (jW e C d us),rt:=fun _ _=>False } (I5.suite E2 rfl) ⟨_,e1,rfl,rfl⟩) (fun f s6 hf=>?_) fun _ _ q=>q;cases f with
   | next =>
    obtain⟨σ',H2,I6,rfl,rfl⟩:=hf;exact⟨rfl,I6.unsuite I.ok⟩
   | brk=>exact hf.choose_spec.choose_spec.2.elim
   | cont=>exact hf.choose_spec.choose_spec.2.elim
   | ret u=>exact hf.choose_spec.choose_spec.choose_spec.2.2.elim
  refine wpAny_mono (cmp _) (fun f s6 hf=>?_) fun _ _ q=>q;obtain⟨rfl,I6⟩:=hf;refine wpAny_bind (wpAny_bindName (jU (i:=j) (v:=.non) I6 hN hj (.inl hlj) rfl (fun s7 I7=>?_) (.inr hlj)));unfold unbindBehindTheSuite;refine wpAny_onRaise (sF (i:=j) (v:=.non) I7 hN hj hlj ?_ fun s8 I8=>⟨_,_,I8,?_⟩)
  ·rw [bu (by rw [aO,aO];exact jl)]
  ·have q:=hd e us Y.fe;have es:(((σ.set j (some (V.ref e))).set i (some (.ref e))).set j (some .non)).set j none=(σ.set i (some (.ref e))).set j none:=by
    rw [List.set_set,List.set_comm _ _ (Ne.symm hij),List.set_set]
   rw [es];exact q
 have hev:wpAny (model X.prog X.w) X.A (eval (.Call (.Name g p) (a::as) [] cp) X.env) (EP (X.wish E') pins σ D.rt) E' s:=by
  refine wpAny_Call_Name_kw (wpAny_mono (lh (X:=X.wish E') (pos:=p) hgi hgv hgd hgc pins s σ H (fun v H'=>v = .ref fa/\H'=H) (I.wish E') ⟨.ref fa,hfa,rfl,rfl⟩) ?_ fun _ _ q=>q);rintro u s1 ⟨v,H',I1,r1,rfl,rfl⟩;cases r1;exact PySem.W.callWith_K (h₀:=X.base) I1.ok.mod.kin hk (jv (ha E' cp pins s1 σ H' _ I1 h) fun us s2 ⟨vs,H1,I2,r,q⟩=>⟨I2.kIn,vY (X:=X.wish E') F hr hb I2 (hx H1 s2 I2) r q⟩) hs hpl
 refine wpAny_execs_cons (wpAny_mono (wpAny_Return_some (pos:=rp) (Q:=fun f s1=>∃ v,f = .ret v/\SP X pins D (.ret v) s1) (jv hev fun v s1 ⟨x,H1,I1,r1,q1⟩=>⟨v,rfl,x,σ,H1,I1.unwish,r1,q1⟩)) (fun f s1 hf=>?_) fun _ _ q=>q);obtain⟨v,rfl,hf⟩:=hf;exact hf
end
end L2
namespace Dp
open PySem L2
abbrev St:=L2.St
def Fl(H:Hp)(f:Addr):Prop:=∃(l:Addr) (ns:List Int) (i c a b:Int),H f=some (.lst [.ref l,.int i,.int c,.int a,.int b])/\H l=some (.lst (ns.map V.int))/\ns.length<=63/\0<=i/\i<=(ns.length:Int)/\0<=c/\0<=a/\a<2147483647
theorem Fl.same{H H':Hp}{f:Addr}(F:Fl H f)(e:Same H H'):Fl H' f:=by
 obtain⟨l,ns,i,c,a,b,h1,h2,h⟩:=F;exact⟨l,ns,i,c,a,b,e _ _ h1,e _ _ h2,h⟩
theorem Fl.lst{H:Hp}{f:Addr}(F:Fl H f):∃ xs,H f=some (.lst xs):=by
 obtain⟨l,ns,i,c,a,b,h1,_⟩:=F;exact⟨_,h1⟩
inductive D where
 | non|bl (b:Bool)|int (i:Int)|str (x:Str)|tup (l:List D)|lst (l:List D)|fl
 | exn (C:Addr) (x:Str) (l:List D)
 | dct (ks:List mW) (l:List D)
 | fn (a:Addr)
def XO(H:Hp)(a C:Addr)(x:Str)(us:List V):Prop:=(us=[]/\∃ u,H a=some (jW a C none u))\/∃ dx u y,us=[y]/\H a=some (jW a C (some dx) u)/\H dx=some (.xd [(x,y)])
mutual
def Rp(K:Frag)(f:Addr)(O:List Addr)(H:Hp):D->V->Prop
 | .non,v=>v = .non
 | .bl b,v=>v = .bl b
 | .int i,v=>v = .int i
 | .str x,v=>v = .str x
 | .tup l,v=>∃ a xs,v = .ref a/\SqT K H a xs/\Rps K f O H l xs
 | .lst l,v=>∃ a xs,v = .ref a/\a ∉ O/\H a=some (.lst xs)/\Rps K f O H l xs
 | .fl,v=>v = .ref f
 | .fn a,v=>v = .ref a
 | .exn C x l,v=>∃ a us,v = .ref a/\XO H a C x us/\Rps K f O H l us
 | .dct ks l,v=>∃ a us,v = .ref a/\H a=some (.dK (ks.zip us))/\ks.length=us.length/\Rps K f O H l us
def Rps(K:Frag)(f:Addr)(O:List Addr)(H:Hp):List D->List V->Prop
 | [],vs=>vs=[]
 | d::ds,vs=>∃ v r,vs=v::r/\Rp K f O H d v/\Rps K f O H ds r
end
structure Ex (f:Addr)(H H':Hp):Prop where
 sm:Sm f H H'
 fl:Fl H' f
theorem Ex.refl{f:Addr}{H:Hp}(h:Fl H f):Ex f H H:=⟨Sm.refl H,h⟩
theorem Ex.trans{f:Addr}{H H1 H2:Hp}(a:Ex f H H1)(b:Ex f H1 H2):Ex f H H2:=⟨a.sm.trans b.sm,b.fl⟩
theorem Ex.new{f p:Addr}{H:Hp}(F:Fl H f)(h:H p=none)(o:HO):Ex f H (jr H p o):=⟨Sm.new h o,F.same (Same.new h o)⟩
variable{K:Frag}{Jx:Hp->Prop}{f:Addr}{O O':List Addr}{H H':Hp}
def Kp(O:List Addr)(H H':Hp):Prop:=∀ b o,b ∉ O->H b=some o->H' b=some o
theorem Ex.kp(e:Ex f H H')(h:f∈O):Kp O H H':=fun b o n q=>e.sm.app b o (fun z=>n (z ▸ h)) q
theorem _root_.L2.SqT.kp{a:Addr}{xs:List V}(e:Kp O H H')(hO:∀ b∈O,∃ xs,H b=some (.lst xs))(h:SqT K H a xs):SqT K H' a xs:=by
 rcases h with (h|⟨o,h⟩)|h
 ·refine .inl (.inl (e a _ (fun z=>?_) h));obtain⟨xs,q⟩:=hO a z;rw [q] at h;cases h
 ·refine .inl (.inr ⟨o,e a _ (fun z=>?_) h⟩);obtain⟨xs,q⟩:=hO a z;rw [q] at h;cases h
 ·exact .inr h
theorem XO.kp{a C:Addr}{x:Str}{us:List V}(e:Kp O H H')(hO:∀ b∈O,∃ xs,H b=some (.lst xs))(h:XO H a C x us):XO H' a C x us:=by
 rcases h with⟨e1,u,h⟩|⟨dx,u,y,e1,h,hd⟩
 ·refine .inl ⟨e1,u,e a _ (fun z=>?_) h⟩;obtain⟨xs,q⟩:=hO a z;rw [q] at h;unfold jW at h;cases h
 ·refine .inr ⟨dx,u,y,e1,e a _ (fun z=>?_) h,e dx _ (fun z=>?_) hd⟩
  ·obtain⟨xs,q⟩:=hO a z;rw [q] at h;unfold jW at h;cases h
  ·obtain⟨xs,q⟩:=hO dx z;rw [q] at hd;cases hd
mutual
theorem Rp.kp(e:Kp O H H')(hO:∀ b∈O,∃ xs,H b=some (.lst xs)):∀{d:D} {v:V},Rp K f O H d v->Rp K f O H' d v
 | .non,_,h=>h
 | .bl _,_,h=>h
 | .int _,_,h=>h
 | .str _,_,h=>h
 | .fl,_,h=>h
 | .fn _,_,h=>h
 | .tup l,v,h=>by
  obtain⟨a,xs,e1,h1,h2⟩:=h;exact⟨a,xs,e1,h1.kp e hO,Rps.kp e hO h2⟩
 | .lst l,v,h=>by
  obtain⟨a,xs,e1,n,h1,h2⟩:=h;exact⟨a,xs,e1,n,e a _ n h1,Rps.kp e hO h2⟩
 | .exn C x l,v,h=>by
  obtain⟨a,us,e1,h1,h2⟩:=h;exact⟨a,us,e1,h1.kp e hO,Rps.kp e hO h2⟩
 | .dct ks l,v,h=>by
  obtain⟨a,us,e1,h1,h2,h3⟩:=h;exact⟨a,us,e1,e a _ (fun z=>by obtain⟨xs,q⟩:=hO a z;rw [q] at h1;cases h1) h1,h2,Rps.kp e hO h3⟩
theorem Rps.kp(e:Kp O H H')(hO:∀ b∈O,∃ xs,H b=some (.lst xs)):∀{ds:List D} {vs:List V},Rps K f O H ds vs->Rps K f O H' ds vs
 | [],_,h=>h
 | d::ds,_,h=>by
  obtain⟨v,r,e1,h1,h2⟩:=h;exact⟨v,r,e1,Rp.kp e hO h1,Rps.kp e hO h2⟩
end
mutual
theorem Rp.less(e:∀ a∈O',a∈O):∀{d:D} {v:V},Rp K f O H d v->Rp K f O' H d v
 | .non,_,h=>h
 | .bl _,_,h=>h
 | .int _,_,h=>h
 | .str _,_,h=>h
 | .fl,_,h=>h
 | .fn _,_,h=>h
 | .tup l,v,h=>by
  obtain⟨a,xs,e1,h1,h2⟩:=h;exact⟨a,xs,e1,h1,Rps.less e h2⟩
 | .lst l,v,h=>by
  obtain⟨a,xs,e1,n,h1,h2⟩:=h;exact⟨a,xs,e1,fun z=>n (e a z),h1,Rps.less e h2⟩
 | .exn C x l,v,h=>by
  obtain⟨a,us,e1,h1,h2⟩:=h;exact⟨a,us,e1,h1,Rps.less e h2⟩
 | .dct ks l,v,h=>by
  obtain⟨a,us,e1,h1,h2,h3⟩:=h;exact⟨a,us,e1,h1,h2,Rps.less e h3⟩
theorem Rps.less(e:∀ a∈O',a∈O):∀{ds:List D} {vs:List V},Rps K f O H ds vs->Rps K f O' H ds vs
 | [],_,h=>h
 | d::ds,_,h=>by
  obtain⟨v,r,e1,h1,h2⟩:=h;exact⟨v,r,e1,Rp.less e h1,Rps.less e h2⟩
end
theorem Rps.len:∀{ds:List D} {vs:List V},Rps K f O H ds vs->vs.length=ds.length
 | [],_,h=>by rw [show _=[] from h];rfl
 | d::ds,_,h=>by
  obtain⟨v,r,e1,h1,h2⟩:=h;rw [e1,aJ,aJ,Rps.len h2]
theorem Rps.nil:Rps K f O H [] []:=rfl
theorem Rps.cons{d:D}{ds:List D}{v:V}{vs:List V}(h:Rp K f O H d v)(t:Rps K f O H ds vs):Rps K f O H (d::ds) (v::vs):=⟨v,vs,rfl,h,t⟩
theorem Rps.get:∀{ds:List D} {vs:List V} {i:Nat} {d:D},Rps K f O H ds vs->ds[i]? = some d->∃ v,vs[i]? = some v/\Rp K f O H d v
 | [],_,_,_,_,e=>by simp at e
 | d0::ds,_,i,d,h,e=>by
  obtain⟨v,r,e1,h1,h2⟩:=h;subst e1;cases i with
  | zero =>
   simp at e;subst e;exact⟨v,rfl,h1⟩
  | succ i =>
   obtain⟨w,hw,h⟩:=Rps.get h2 (i:=i) (d:=d) (by simpa using e);exact⟨w,by simpa using hw,h⟩
theorem Rps.append:∀{ds es:List D} {vs ws:List V},Rps K f O H ds vs->Rps K f O H es ws->Rps K f O H (ds++es) (vs++ws)
 | [],_,_,_,h,t=>by rw [show _=[] from h];exact t
 | d::ds,_,_,_,h,t=>by
  obtain⟨v,r,e1,h1,h2⟩:=h;subst e1;exact⟨v,_,rfl,h1,Rps.append h2 t⟩
theorem Rps.take:∀{ds:List D} {vs:List V} (n:Nat),Rps K f O H ds vs->Rps K f O H (ds.take n) (vs.take n)
 | _,_,0,_=>by rw [cy,cy];rfl
 | [],_,n+1,h=>by rw [show _=[] from h];rfl
 | d::ds,_,n+1,h=>by
  obtain⟨v,r,e1,h1,h2⟩:=h;subst e1;exact⟨v,_,rfl,h1,Rps.take n h2⟩
theorem Rps.drop:∀{ds:List D} {vs:List V} (n:Nat),Rps K f O H ds vs->Rps K f O H (ds.drop n) (vs.drop n)
 | _,_,0,h=>h
 | [],_,n+1,h=>by rw [show _=[] from h];rfl
 | d::ds,_,n+1,h=>by
  obtain⟨v,r,e1,h1,h2⟩:=h;subst e1;exact Rps.drop n h2
theorem Rps.set{d:D}{v:V}(q:Rp K f O H d v):∀{ds:List D} {vs:List V} (n:Nat),Rps K f O H ds vs->Rps K f O H (ds.set n d) (vs.set n v)
 | [],_,n,h=>by rw [show _=[] from h];rfl
 | d0::ds,_,0,h=>by
  obtain⟨w,r,e1,h1,h2⟩:=h;subst e1;exact⟨v,_,rfl,q,h2⟩
 | d0::ds,_,n+1,h=>by
  obtain⟨w,r,e1,h1,h2⟩:=h;subst e1;exact⟨w,_,rfl,h1,Rps.set q n h2⟩
theorem Rps.reverse:∀{ds:List D} {vs:List V},Rps K f O H ds vs->Rps K f O H ds.reverse vs.reverse
 | [],_,h=>by rw [show _=[] from h];rfl
 | d::ds,_,h=>by
  obtain⟨v,r,e1,h1,h2⟩:=h;subst e1;rw [bZ,bZ];exact Rps.append (Rps.reverse h2) ⟨v,[],rfl,h1,rfl⟩
theorem Rps.flat{ds:List D}{vs:List V}(h:Rps K f O H ds vs):∀ n,Rps K f O H (List.replicate n ds).flatten (List.replicate n vs).flatten
 | 0=>rfl
 | n+1=>by
  rw [aW,aW,bj,bj];exact Rps.append h (Rps.flat h n)
theorem Rps.bls:∀{bs:List Bool} {vs:List V},Rps K f O H (bs.map D.bl) vs->vs=bs.map V.bl
 | [],_,h=>h
 | b::bs,_,h=>by
  obtain⟨v,r,e1,h1,h2⟩:=h;rw [e1,show v=_ from h1,Rps.bls h2];rfl
theorem Rps.ints:∀{bs:List Int} {vs:List V},Rps K f O H (bs.map D.int) vs->vs=bs.map V.int
 | [],_,h=>h
 | b::bs,_,h=>by
  obtain⟨v,r,e1,h1,h2⟩:=h;rw [e1,show v=_ from h1,Rps.ints h2];rfl
inductive SD where
 | no|val (d:D)|own (l:List D)
abbrev SS:=List SD
structure SlD (K:Frag)(Jx:Hp->Prop)(f:Addr)(O:List Addr)(σ:St)(H:Hp)(ss:SS):Prop where
 fl:Fl H f
 fO:f∈O
 al:∀ a∈O,∃ xs,H a=some (.lst xs)
 lO:∀ l r,H f=some (.lst (.ref l::r))->l ∉ O
 len:ss.length=σ.length
 val:∀(i:Nat) (d:D),ss[i]? = some (SD.val d)->∃ v,σ[i]? = some (some v)/\Rp K f O H d v
 own:∀(i:Nat) (l:List D),ss[i]? = some (SD.own l)->∃ a xs,σ[i]? = some (some (V.ref a))/\a∈O/\a≠f/\H a=some (.lst xs)/\Rps K f O H l xs
 j:∀ H',Ex f H H'->Jx H'
variable{σ:St}{ss:SS}
theorem SlD.ex(R:SlD K Jx f O σ H ss)(e:Ex f H H'):SlD K Jx f O σ H' ss where
 j:=fun H2 e2=>R.j H2 (e.trans e2)
 fl:=e.fl
 fO:=R.fO
 al:=fun a h=>by
  by_cases z:a=f
  ·subst z;exact e.fl.lst
  ·obtain⟨xs,q⟩:=R.al a h;exact⟨xs,e.sm.app a _ z q⟩
 lO:=fun l r h=>by
  obtain⟨l0,ns,i,c,a,b,h1,_⟩:=R.fl;obtain⟨r',h2⟩:=e.sm.key _ _ h1;rw [h2] at h;cases h;exact R.lO _ _ h1
 len:=R.len
 val:=fun i d h=>by
  obtain⟨v,h1,h2⟩:=R.val i d h;exact⟨v,h1,h2.kp (e.kp R.fO) R.al⟩
 own:=fun i l h=>by
  obtain⟨a,xs,h1,h2,h3,h4,h5⟩:=R.own i l h;exact⟨a,xs,h1,h2,h3,e.sm.app a _ h3 h4,h5.kp (e.kp R.fO) R.al⟩
theorem SlD.tr(R:SlD K Jx f O σ H ss):SlD K (fun _=>True) f O σ H ss:=⟨R.fl,R.fO,R.al,R.lO,R.len,R.val,R.own,fun _ _=>trivial⟩
theorem SlD.up(R:SlD K Jx f O σ H ss)(e:Ex f H H'){d:D}{v:V}(h:Rp K f O H d v):Rp K f O H' d v:=h.kp (e.kp R.fO) R.al
theorem SlD.ups(R:SlD K Jx f O σ H ss)(e:Ex f H H'){d:List D}{v:List V}(h:Rps K f O H d v):Rps K f O H' d v:=h.kp (e.kp R.fO) R.al
theorem SlD.new(R:SlD K Jx f O σ H ss){p:Addr}(h:H p=none)(o:HO):Ex f H (jr H p o):=Ex.new R.fl h o
theorem SlD.nO(R:SlD K Jx f O σ H ss){p:Addr}(h:H p=none):p ∉ O:=fun z=>by
 obtain⟨xs,q⟩:=R.al p z;rw [h] at q;cases q
theorem SlD.lst(R:SlD K Jx f O σ H ss){p:Addr}(h:H p=none){ds:List D}{xs:List V}(q:Rps K f O H ds xs):Rp K f O (jr H p (.lst xs)) (.lst ds) (.ref p) :=
 ⟨p,xs,rfl,R.nO h,ji,R.ups (R.new h _) q⟩
theorem SlD.tup(R:SlD K Jx f O σ H ss){p:Addr}(h:H p=none){ds:List D}{xs:List V}(q:Rps K f O H ds xs):Rp K f O (jr H p (.tup xs)) (.tup ds) (.ref p) :=
 ⟨p,xs,rfl,SqT.of ji,R.ups (R.new h _) q⟩
structure TEd where
 run:SS->(D->Prop)->Prop
 mono:∀{ss Q Q'},(∀ d,Q d->Q' d)->run ss Q->run ss Q'
structure TTd where
 run:SS->(Bool->Prop)->Prop
 mono:∀{ss Q Q'},(∀ d,Q d->Q' d)->run ss Q->run ss Q'
structure TAd where
 run:SS->(List D->Prop)->Prop
 mono:∀{ss Q Q'},(∀ d,Q d->Q' d)->run ss Q->run ss Q'
structure TOd where
 run:SS->(Option Int->Prop)->Prop
 mono:∀{ss Q Q'},(∀ d,Q d->Q' d)->run ss Q->run ss Q'
structure TGd where
 tg:List Nat
 run:D->SS->(SS->Prop)->Prop
 mono:∀{d ss Q Q'},(∀ d,Q d->Q' d)->run d ss Q->run d ss Q'
def LE(K:Frag)(Jx:Hp->Prop)(t:TEd):TE:=fun σ H Q=>∃ f O ss,SlD K Jx f O σ H ss/\t.run ss fun d=>∀ v H',Ex f H H'->Rp K f O H' d v->Q v H'
def LT(K:Frag)(Jx:Hp->Prop)(t:TTd):TT:=fun σ H Q=>∃ f O ss,SlD K Jx f O σ H ss/\t.run ss fun d=>∀ H',Ex f H H'->Q d H'
def LA(K:Frag)(Jx:Hp->Prop)(t:TAd):TA:=fun σ H Q=>∃ f O ss,SlD K Jx f O σ H ss/\t.run ss fun ds=>∀ vs H',Ex f H H'->Rps K f O H' ds vs->Q vs H'
def LO(K:Frag)(Jx:Hp->Prop)(t:TOd):TO:=fun σ H Q=>∃ f O ss,SlD K Jx f O σ H ss/\t.run ss fun d=>∀ H',Ex f H H'->Q d H'
abbrev B8:=List D->(D->Prop)->Prop
def mM(K:Frag)(n:Nat)(sp:B8):Sp:=fun vs H Q _=>vs.length=n/\∃ f O ds,Fl H f/\f∈O/\(∀ a∈O,∃ xs,H a=some (.lst xs))/\(∀ l r,H f=some (.lst (.ref l::r))->l ∉ O)/\Rps K f O H ds vs/\sp ds fun d=>∀ v H',Ex f H H'->Rp K f O H' d v->Q v H'
variable{X:Cx}
theorem _root_.L2.PE.weak{e:Expr}{t t':TE}(h:PE X e t)(w:∀ σ H Q,t' σ H Q->t σ H Q):PE X e t':=fun pins s σ H Q I q=>h pins s σ H Q I (w σ H Q q)
theorem _root_.L2.PT.weak{e:Expr}{t t':TT}(h:PT X e t)(w:∀ σ H Q,t' σ H Q->t σ H Q):PT X e t':=fun pins s σ H Q I q=>h pins s σ H Q I (w σ H Q q)
theorem _root_.L2.PA.weak{e:List Expr}{t t':TA}(h:PA X e t)(w:∀ σ H Q,t' σ H Q->t σ H Q):PA X e t':=fun pos pins s σ H Q I q=>h pos pins s σ H Q I (w σ H Q q)
theorem _root_.L2.PO.weak{e:Option Expr}{t t':TO}(h:PO X e t)(w:∀ σ H Q,t' σ H Q->t σ H Q):PO X e t':=fun pins s σ H Q I q=>h pins s σ H Q I (w σ H Q q)
def dQ(i:Nat):TEd:=⟨fun ss Q=>match ss[i]? with|some (SD.val d)=>Q d|_=>False,fun {ss Q Q'} h q=>by
 revert q;split
 ·exact h _
 ·exact id⟩
theorem dQ.ok{i:Nat}{e:Expr}(h:PE X e (lC i)):PE X e (LE X.K Jx (dQ i)):=h.weak fun σ H Q ⟨f,O,ss,R,q⟩=>by
 have q:(match ss[i]? with|some (SD.val d)=>(∀ v H',Ex f H H'->Rp X.K f O H' d v->Q v H')|_=>False):=q;revert q;split
 ·rename_i d e;intro q;obtain⟨v,h1,h2⟩:=R.val i d e;exact⟨v,h1,q v H (Ex.refl R.fl) h2⟩
 ·exact False.elim
def dC(d:D):TEd:=⟨fun _ Q=>Q d,fun h q=>h _ q⟩
theorem dC.ok{e:Expr}{d:D}{v:V}(h:PE X e (tC v))(r:∀ f O H,Rp X.K f O H d v):PE X e (LE X.K Jx (dC d)):=h.weak fun σ H Q ⟨f,O,ss,R,q⟩=>q v H (Ex.refl R.fl) (r f O H)
abbrev OD:=D->D->(D->Prop)->Prop
def d2(o:OD)(m:∀{x y Q Q'},(∀ d,Q d->Q' d)->o x y Q->o x y Q')(a b:TEd):TEd:=⟨fun ss Q=>a.run ss fun x=>b.run ss fun y=>o x y Q,fun h q=>a.mono (fun x q=>b.mono (fun y q=>m h q) q) q⟩
def RD(K:Frag)(r:R2)(o:OD):Prop:=∀(f:Addr) (O:List Addr) (σ:St) (ss:SS) (H:Hp) (dx dy:D) (x y:V) (Q:VK),SlD K (fun _=>True) f O σ H ss->Rp K f O H dx x->Rp K f O H dy y->o dx dy (fun d=>∀ v H',Ex f H H'->Rp K f O H' d v->Q v H')->r x y H Q
theorem d2.ok{e:Expr}{a b:TEd}{r:R2}{o:OD}{m}(hr:RD X.K r o)(h:PE X e (zT r (LE X.K Jx a) (LE X.K Jx b))):PE X e (LE X.K Jx (d2 o m a b)):=h.weak fun σ H Q ⟨f,O,ss,R,q⟩=>by
 refine⟨f,O,ss,R,a.mono (fun dx q v1 H1 e1 r1=>?_) q⟩;refine⟨f,O,ss,R.ex e1,b.mono (fun dy q v2 H2 e2 r2=>?_) q⟩;exact hr f O σ ss H2 dx dy v1 v2 Q ((R.ex e1).ex e2).tr ((R.ex e1).up e2 r1) r2 (m (fun d q v H' e3 r3=>q v H' (e1.trans (e2.trans e3)) r3) q)
end Dp
namespace L2
open PySem PySem.Spec PyProof.Rows
variable{X:Cx}{pins:List (Addr×Obj)}{σ:St}{H:Hp}{s:Shared}
def yx(K:Frag)(neg:Bool):R2:=fun x y H Q=>∃ d ds,Rep K H d x/\Rep K H (.lst ds) y/\d.pl=true/\DV.pls ds=true/\DV.dps ds<=60/\∀ b,(b=true↔d∈ds)->Q (.bl (if neg then !b else b)) H
theorem pP{K:Frag}:∀{ds:List DV} {vs:List V} {us:List Value},Reps K H ds vs->Vals vs us->DV.pls ds=true->DV.dps ds<=60->(∀ w∈us,∃ di∈ds,∃ xi,Rep K H di xi/\RelV xi w/\di.pl=true/\di.dp<=60)/\∀ di∈ds,∃ w∈us,∃ xi,Rep K H di xi/\RelV xi w
 | [],vs,us,h,r,_,_=>by
  unfold Reps at h;subst h;cases r;exact⟨fun w h=>absurd h ah,fun w h=>absurd h ah⟩
 | d::ds,vs,us,h,r,p,hd=>by
  unfold Reps at h;obtain⟨x,r',rfl,h1,h2⟩:=h;cases r with
  | cons rx rxs =>
   unfold DV.pls at p;rw [ax] at p;unfold DV.dps at hd;obtain⟨i1,i2⟩:=pP h2 rxs p.2 (by first|lia|omega);refine⟨fun w hw=>?_,fun di hi=>?_⟩
   ·rcases ai.mp hw with e|e
    ·rw [e];exact⟨d,ar,x,h1,rx,p.1,by first|lia|omega⟩
    ·obtain⟨di,m,z⟩:=i1 w e;exact⟨di,aq _ m,z⟩
   ·rcases ai.mp hi with e|e
    ·rw [e];exact⟨_,ar,x,h1,rx⟩
    ·obtain⟨w,m,z⟩:=i2 di e;exact⟨w,aq _ m,z⟩
open Classical in
theorem qg{K:Frag}{k:Nat}(hr:Room k X.A)(hK:X.K=K)(I:Inv X pins σ H s){d:DV}{ds:List DV}{x:V}{v:Value}{vs:List V}{us:List Value}(h1:Rep K H d x)(rx:RelV x v)(r1:Reps K H ds vs)(rv:Vals vs us)(p1:d.pl=true)(p2:DV.pls ds=true)(hd:DV.dps ds<=60) :
  ∃ e:Value->Bool,(∀ w∈us,SeqAt.EqAt X.A.in1 s w v (e w))/\(us.any e=true↔d∈ds):=by
 subst hK;obtain⟨i1,i2⟩:=pP r1 rv p2 hd;have hun:=hr.units;have key:∀ w∈us,∀ di∈ds,∀ xi,Rep X.K H di xi->RelV xi w->(decide (∃ xi,RelV xi w/\Rep X.K H d xi)=true↔di=d):=fun w hw di hi xi hx rw'=>by
  rw [decide_eq_true_iff];constructor
  ·rintro⟨x',r',h'⟩;rw [RelV.inj r' rw'] at h';exact Rep.inj I hx h'
  ·rintro rfl;exact⟨xi,rw',hx⟩
 refine⟨fun w=>decide (∃ xi,RelV xi w/\Rep X.K H d xi),fun w hw=>?_,?_⟩
 ·obtain⟨di,hi,xi,hx,rw',pi,dpi⟩:=i1 w hw;obtain⟨b,hb,ib⟩:=Ct I di d X.A.in1 hx h1 rw' rx pi p1 (by show X.A.units+1+_+1<_;(first|lia|omega));have:decide (∃ xi,RelV xi w/\Rep X.K H d xi)=b:=aS.mpr ((key w hw di hi xi hx rw').trans ib.symm);dsimp only;rw [this];exact hb
 ·rw [cL];constructor
  ·rintro⟨w,hw,he⟩;obtain⟨di,hi,xi,hx,rw',_,_⟩:=i1 w hw;exact (key w hw di hi xi hx rw').mp he ▸ hi
  ·intro hm;obtain⟨w,hw,xi,hx,rw'⟩:=i2 d hm;exact⟨w,hw,(key w hw d hm xi hx rw').mpr rfl⟩
theorem yL(K:Frag){k:Nat}(hr:Room k X.A)(hK:X.K=K:=by rfl):OpR X (compareOp .In) (yx K false):=by
 intro pins s σ H x y u v Q I rx ry h;obtain⟨d,ds,h1,h2,p1,p2,hd,q⟩:=h;unfold Rep at h2;obtain⟨a,vs,rfl,t1,r1⟩:=h2;cases ry;subst hK;obtain⟨its,rv,p,_⟩:=I.list t1;obtain⟨e,he,hi⟩:=qg hr rfl I h1 rx r1 rv p1 p2 hd;refine SeqAt.in_listAt e p.isList (fun w hw=>he w (by simpa using hw)) ⟨.bl _,H,I,rfl,?_⟩;rw [show its.toArray.any e=its.any e by simp];exact q _ hi
theorem sY(K:Frag){k:Nat}(hr:Room k X.A)(hK:X.K=K:=by rfl):OpR X (compareOp .NotIn) (yx K true):=by
 intro pins s σ H x y u v Q I rx ry h;obtain⟨d,ds,h1,h2,p1,p2,hd,q⟩:=h;unfold Rep at h2;obtain⟨a,vs,rfl,t1,r1⟩:=h2;cases ry;subst hK;obtain⟨its,rv,p,_⟩:=I.list t1;obtain⟨e,he,hi⟩:=qg hr rfl I h1 rx r1 rv p1 p2 hd;refine SeqAt.notIn_listAt e p.isList (fun w hw=>he w (by simpa using hw)) ⟨.bl _,H,I,rfl,?_⟩;rw [show its.toArray.any e=its.any e by simp];exact q _ hi
end L2
namespace Dp
open PySem L2
variable{K:Frag}{Jx:Hp->Prop}{f:Addr}{O O':List Addr}{H H':Hp}{X:Cx}{σ:St}{ss:SS}
mutual
def D.pl:D->Bool
 | .int _=>true | .str _=>true | .non=>true | .bl _=>false | .fl=>false | .exn _ _ _=>false | .dct _ _=>false | .fn _=>false
 | .tup ds=>D.pls ds
 | .lst ds=>D.pls ds
def D.pls:List D->Bool
 | []=>true
 | d::ds=>D.pl d && D.pls ds
end
mutual
def D.dp:D->Nat
 | .tup ds=>D.dps ds+1
 | .lst ds=>D.dps ds+1
 | .int _=>0 | .str _=>0 | .non=>0 | .bl _=>0 | .fl=>0 | .exn _ _ _=>0 | .dct _ _=>0 | .fn _=>0
def D.dps:List D->Nat
 | []=>0
 | d::ds=>max (D.dp d) (D.dps ds)
end
mutual
def D.dv:D->DV
 | .int i=>.int i | .str x=>.str x | .non=>.non | .bl b=>.bl b | .fl=>.non | .exn _ _ _=>.non | .dct _ _=>.non | .fn _=>.non
 | .tup ds=>.tup (D.dvs ds)
 | .lst ds=>.lst (D.dvs ds)
def D.dvs:List D->List DV
 | []=>[]
 | d::ds=>D.dv d::D.dvs ds
end
mutual
theorem D.dv_pl:∀{d:D},d.pl=true->d.dv.pl=true
 | .int _,_=>rfl
 | .str _,_=>rfl
 | .non,_=>rfl
 | .bl _,h=>h
 | .fl,h=>by cases h
 | .fn _,h=>by cases h
 | .exn _ _ _,h=>by cases h
 | .dct _ _,h=>by cases h
 | .tup ds,h=>D.dvs_pl (ds:=ds) h
 | .lst ds,h=>D.dvs_pl (ds:=ds) h
theorem D.dvs_pl:∀{ds:List D},D.pls ds=true->DV.pls (D.dvs ds)=true
 | [],_=>rfl
 | d::ds,h=>by
  have h:=ad.mp (show (d.pl && D.pls ds)=true from h);exact ad.mpr ⟨D.dv_pl h.1,D.dvs_pl h.2⟩
end
mutual
theorem D.dv_dp:∀{d:D},d.dv.dp=d.dp
 | .int _=>rfl
 | .str _=>rfl
 | .non=>rfl
 | .bl _=>rfl
 | .fl=>rfl
 | .fn _=>rfl
 | .exn _ _ _=>rfl
 | .dct _ _=>rfl
 | .tup ds=>congrArg (· + 1) (D.dvs_dp (ds:=ds))
 | .lst ds=>congrArg (· + 1) (D.dvs_dp (ds:=ds))
theorem D.dvs_dp:∀{ds:List D},DV.dps (D.dvs ds)=D.dps ds
 | []=>rfl
 | d::ds=>by
  show max (DV.dp d.dv) (DV.dps (D.dvs ds))=max d.dp (D.dps ds);rw [D.dv_dp,D.dvs_dp]
end
mutual
theorem D.dv_inj:∀{d e:D},d.pl=true->e.pl=true->d.dv=e.dv->d=e
 | .int _,e,_,h,q=>by cases e <;> first|(cases q;rfl)|(cases q;done)|cases h
 | .str _,e,_,h,q=>by cases e <;> first|(cases q;rfl)|(cases q;done)|cases h
 | .non,e,_,h,q=>by cases e <;> first|rfl|(cases q;done)|cases h
 | .bl _,_,h,_,_=>by cases h
 | .fl,_,h,_,_=>by cases h
 | .fn _,_,h,_,_=>by cases h
 | .exn _ _ _,_,h,_,_=>by cases h
 | .dct _ _,_,h,_,_=>by cases h
 | .tup ds,e,h1,h2,q=>by
  cases e with
  | tup es =>
   have q:DV.tup (D.dvs ds)=DV.tup (D.dvs es):=q;injection q with q;rw [D.dvs_inj h1 h2 q]
  | int=>cases q
  | str=>cases q
  | non=>cases q
  | bl=>cases h2
  | fl=>cases h2
  | exn=>cases h2
  | dct=>cases h2
  | fn=>cases h2
  | lst=>cases q
 | .lst ds,e,h1,h2,q=>by
  cases e with
  | lst es =>
   have q:DV.lst (D.dvs ds)=DV.lst (D.dvs es):=q;injection q with q;rw [D.dvs_inj h1 h2 q]
  | int=>cases q
  | str=>cases q
  | non=>cases q
  | bl=>cases h2
  | fl=>cases h2
  | exn=>cases h2
  | dct=>cases h2
  | fn=>cases h2
  | tup=>cases q
theorem D.dvs_inj:∀{ds es:List D},D.pls ds=true->D.pls es=true->D.dvs ds=D.dvs es->ds=es
 | [],[],_,_,_=>rfl
 | [],_::_,_,_,q=>by cases q
 | _::_,[],_,_,q=>by cases q
 | d::ds,e::es,h1,h2,q=>by
  have h1:=ad.mp (show (d.pl && D.pls ds)=true from h1);have h2:=ad.mp (show (e.pl && D.pls es)=true from h2);have q:d.dv::D.dvs ds=e.dv::D.dvs es:=q;injection q with q1 q2;rw [D.dv_inj h1.1 h2.1 q1,D.dvs_inj h1.2 h2.2 q2]
end
mutual
theorem Rp.rep:∀{d:D} {v:V},d.pl=true->Rp K f O H d v->Rep K H d.dv v
 | .int _,_,_,h=>h
 | .str _,_,_,h=>h
 | .non,_,_,h=>h
 | .bl _,_,h,_=>by cases h
 | .fl,_,h,_=>by cases h
 | .fn _,_,h,_=>by cases h
 | .exn _ _ _,_,h,_=>by cases h
 | .dct _ _,_,h,_=>by cases h
 | .tup ds,_,p,h=>by
  obtain⟨a,xs,e,h1,h2⟩:=h;exact⟨a,xs,e,h1,Rps.rep p h2⟩
 | .lst ds,_,p,h=>by
  obtain⟨a,xs,e,_,h1,h2⟩:=h;exact⟨a,xs,e,SqL.of h1,Rps.rep p h2⟩
theorem Rps.rep:∀{ds:List D} {vs:List V},D.pls ds=true->Rps K f O H ds vs->Reps K H (D.dvs ds) vs
 | [],_,_,h=>h
 | d::ds,_,p,h=>by
  have p:=ad.mp (show (d.pl && D.pls ds)=true from p);obtain⟨v,r,e,h1,h2⟩:=h;exact⟨v,r,e,Rp.rep p.1 h1,Rps.rep p.2 h2⟩
end
theorem OpR.or2{g:Value->Value->Sem Value}{r r':R2}(h:OpR X g r)(h':OpR X g r'):OpR X g (fun x y H Q=>r x y H Q\/r' x y H Q):=fun pins s σ H x y v u Q I rx ry q=>q.elim (h pins s σ H x y v u Q I rx ry) (h' pins s σ H x y v u Q I rx ry)
def oAdd:OD
 | .int i,.int j,Q=>Q (.int (i+j))
 | .str a,.str b,Q=>a.length+b.length<=sizeLine/\Q (.str (a++b))
 | .lst a,.lst b,Q=>a.length+b.length<=sizeLine/\Q (.lst (a++b))
 | .tup a,.tup b,Q=>a.length+b.length<=sizeLine/\Q (.tup (a++b))
 | _,_,_=>False
def oSub:OD
 | .int i,.int j,Q=>Q (.int (i-j))
 | _,_,_=>False
def oMul:OD
 | .int i,.int j,Q=>CMulB i j/\Q (.int (i*j))
 | .lst a,.int k,Q => -(2^63)<=k/\k<2^63/\a.length*k.toNat<=sizeLine/\Q (.lst (List.replicate k.toNat a).flatten)
 | .str z,.int n,Q=>z.length<=16 /\ -2^63<=n/\n<=1048576/\Q (.str (Txt.mul z n))
 | .tup a,.int k,Q=>a≠[]/\1<=k/\a.length*k.toNat<=100000/\Q (.tup (List.replicate k.toNat a).flatten)
 | _,_,_=>False
def oDiv:OD
 | .int i,.int j,Q=>lW i j/\Q (.int (i.fdiv j))
 | _,_,_=>False
def oMod:OD
 | .int i,.int j,Q=>j≠0/\Q (.int (i.fmod j))
 | _,_,_=>False
def oPow:OD
 | .int i,.int j,Q=>xp i j/\Q (.int (i^j.toNat))
 | _,_,_=>False
def oShl:OD
 | .int i,.int j,Q=>xp i j/\Q (.int (i*2^j.toNat))
 | _,_,_=>False
def qR:OD:=fun _ _ _=>False
def oBin:Operator->OD
 | .Add=>oAdd | .Sub=>oSub | .Mult=>oMul | .FloorDiv=>oDiv | .Mod=>oMod | .Pow=>oPow | .LShift=>oShl|_=>qR
def oLt:OD
 | .int i,.int j,Q=>Q (.bl (decide (i<j)))
 | _,_,_=>False
def oLe:OD
 | .int i,.int j,Q=>Q (.bl (decide (i<=j)))
 | _,_,_=>False
def oGt:OD
 | .int i,.int j,Q=>Q (.bl (decide (j<i)))
 | _,_,_=>False
def oGe:OD
 | .int i,.int j,Q=>Q (.bl (decide (j<=i)))
 | _,_,_=>False
def oEq(neg:Bool):OD
 | .int i,.int j,Q=>Q (.bl (if neg then !decide (i=j) else decide (i=j)))
 | .bl i,.bl j,Q=>Q (.bl (if neg then !decide (i=j) else decide (i=j)))
 | .str i,.str j,Q=>Q (.bl (if neg then !decide (i=j) else decide (i=j)))
 | .tup a,.tup b,Q=>D.pls a=true/\D.pls b=true/\D.dps a<=60/\∀ k,(k=true↔a=b)->Q (.bl (if neg then !k else k))
 | .lst a,.lst b,Q=>neg=neg/\D.pls a=true/\D.pls b=true/\D.dps a<=60/\∀ k,(k=true↔a=b)->Q (.bl (if neg then !k else k))
 | _,_,_=>False
def oIs(neg:Bool):OD:=fun x y Q=>match y with
 | .non=>Q (.bl (match x with | .non => !neg|_=>neg))
 | _=>False
def zb(i j:Str):Bool:=!(Builtin.Str.occurrences j i 0 j.length 1).isEmpty
def oIn(neg:Bool):OD:=fun x y Q=>(∃(i:Int) (ns:List Int),x = .int i/\(y = .lst (ns.map .int)\/y = .tup (ns.map .int))/\Q (.bl (if neg then !decide (i∈ns) else decide (i∈ns))))\/(∃(i:Str) (ns:List Str),x = .str i/\(y = .lst (ns.map .str)\/y = .tup (ns.map .str))/\Q (.bl (if neg then !decide (i∈ns) else decide (i∈ns))))\/(∃ l,y = .lst l/\x.pl=true/\D.pls l=true/\D.dps l<=60/\∀ k:Bool,(k=true↔x∈l)->Q (.bl (if neg then !k else k)))\/∃ i j,x = .str i/\y = .str j/\Q (.bl (if neg then !zb i j else zb i j))
theorem oIn.mono{neg:Bool}:∀{x y Q Q'},(∀ d,Q d->Q' d)->oIn neg x y Q->oIn neg x y Q':=fun h q=>q.imp (fun⟨i,ns,e1,e2,q⟩=>⟨i,ns,e1,e2,h _ q⟩) (Or.imp (fun⟨i,ns,e1,e2,q⟩=>⟨i,ns,e1,e2,h _ q⟩) (Or.imp (fun⟨l,e,a,b,c,q⟩=>⟨l,e,a,b,c,fun k hk=>h _ (q k hk)⟩) fun⟨i,j,e1,e2,q⟩=>⟨i,j,e1,e2,h _ q⟩))
def oCmp:CmpOp->OD
 | .Eq=>oEq false | .NotEq=>oEq true | .Lt=>oLt | .LtE=>oLe | .Gt=>oGt | .GtE=>oGe | .Is=>oIs false | .IsNot=>oIs true | .In=>oIn false | .NotIn=>oIn true
theorem oAdd.mono:∀{x y Q Q'},(∀ d,Q d->Q' d)->oAdd x y Q->oAdd x y Q':=by intro x y Q Q' h;cases x <;> cases y <;> intro q <;> first|exact h _ q|exact q|exact⟨q.1,h _ q.2⟩|exact⟨q.1,q.2.1,q.2.2.1,h _ q.2.2.2⟩|exact⟨q.1,q.2.1,q.2.2.1,fun k e=>h _ (q.2.2.2 k e)⟩|exact⟨q.1,q.2.1,q.2.2.1,q.2.2.2.1,fun k e=>h _ (q.2.2.2.2 k e)⟩
theorem oSub.mono:∀{x y Q Q'},(∀ d,Q d->Q' d)->oSub x y Q->oSub x y Q':=by intro x y Q Q' h;cases x <;> cases y <;> intro q <;> first|exact h _ q|exact q|exact⟨q.1,h _ q.2⟩|exact⟨q.1,q.2.1,q.2.2.1,h _ q.2.2.2⟩|exact⟨q.1,q.2.1,q.2.2.1,fun k e=>h _ (q.2.2.2 k e)⟩|exact⟨q.1,q.2.1,q.2.2.1,q.2.2.2.1,fun k e=>h _ (q.2.2.2.2 k e)⟩
theorem oMul.mono:∀{x y Q Q'},(∀ d,Q d->Q' d)->oMul x y Q->oMul x y Q':=by intro x y Q Q' h;cases x <;> cases y <;> intro q <;> first|exact h _ q|exact q|exact⟨q.1,h _ q.2⟩|exact⟨q.1,q.2.1,q.2.2.1,h _ q.2.2.2⟩|exact⟨q.1,q.2.1,q.2.2.1,fun k e=>h _ (q.2.2.2 k e)⟩|exact⟨q.1,q.2.1,q.2.2.1,q.2.2.2.1,fun k e=>h _ (q.2.2.2.2 k e)⟩
theorem oDiv.mono:∀{x y Q Q'},(∀ d,Q d->Q' d)->oDiv x y Q->oDiv x y Q':=by intro x y Q Q' h;cases x <;> cases y <;> intro q <;> first|exact h _ q|exact q|exact⟨q.1,h _ q.2⟩|exact⟨q.1,q.2.1,q.2.2.1,h _ q.2.2.2⟩|exact⟨q.1,q.2.1,q.2.2.1,fun k e=>h _ (q.2.2.2 k e)⟩|exact⟨q.1,q.2.1,q.2.2.1,q.2.2.2.1,fun k e=>h _ (q.2.2.2.2 k e)⟩
theorem oMod.mono:∀{x y Q Q'},(∀ d,Q d->Q' d)->oMod x y Q->oMod x y Q':=by intro x y Q Q' h;cases x <;> cases y <;> intro q <;> first|exact h _ q|exact q|exact⟨q.1,h _ q.2⟩|exact⟨q.1,q.2.1,q.2.2.1,h _ q.2.2.2⟩|exact⟨q.1,q.2.1,q.2.2.1,fun k e=>h _ (q.2.2.2 k e)⟩|exact⟨q.1,q.2.1,q.2.2.1,q.2.2.2.1,fun k e=>h _ (q.2.2.2.2 k e)⟩
theorem oPow.mono:∀{x y Q Q'},(∀ d,Q d->Q' d)->oPow x y Q->oPow x y Q':=by intro x y Q Q' h;cases x <;> cases y <;> intro q <;> first|exact h _ q|exact q|exact⟨q.1,h _ q.2⟩|exact⟨q.1,q.2.1,q.2.2.1,h _ q.2.2.2⟩|exact⟨q.1,q.2.1,q.2.2.1,fun k e=>h _ (q.2.2.2 k e)⟩|exact⟨q.1,q.2.1,q.2.2.1,q.2.2.2.1,fun k e=>h _ (q.2.2.2.2 k e)⟩
theorem oShl.mono:∀{x y Q Q'},(∀ d,Q d->Q' d)->oShl x y Q->oShl x y Q':=by intro x y Q Q' h;cases x <;> cases y <;> intro q <;> first|exact q|exact⟨q.1,h _ q.2⟩
theorem oBin.mono{op:Operator}:∀{x y Q Q'},(∀ d,Q d->Q' d)->oBin op x y Q->oBin op x y Q':=by
 cases op;all_goals first|exact oAdd.mono|exact oSub.mono|exact oMul.mono|exact oDiv.mono|exact oMod.mono|exact oPow.mono|exact oShl.mono|exact fun _ q=>q
theorem oLt.mono:∀{x y Q Q'},(∀ d,Q d->Q' d)->oLt x y Q->oLt x y Q':=by intro x y Q Q' h;cases x <;> cases y <;> intro q <;> first|exact h _ q|exact q|exact⟨q.1,h _ q.2⟩|exact⟨q.1,q.2.1,q.2.2.1,h _ q.2.2.2⟩|exact⟨q.1,q.2.1,q.2.2.1,fun k e=>h _ (q.2.2.2 k e)⟩|exact⟨q.1,q.2.1,q.2.2.1,q.2.2.2.1,fun k e=>h _ (q.2.2.2.2 k e)⟩
theorem oLe.mono:∀{x y Q Q'},(∀ d,Q d->Q' d)->oLe x y Q->oLe x y Q':=by intro x y Q Q' h;cases x <;> cases y <;> intro q <;> first|exact h _ q|exact q|exact⟨q.1,h _ q.2⟩|exact⟨q.1,q.2.1,q.2.2.1,h _ q.2.2.2⟩|exact⟨q.1,q.2.1,q.2.2.1,fun k e=>h _ (q.2.2.2 k e)⟩|exact⟨q.1,q.2.1,q.2.2.1,q.2.2.2.1,fun k e=>h _ (q.2.2.2.2 k e)⟩
theorem oGt.mono:∀{x y Q Q'},(∀ d,Q d->Q' d)->oGt x y Q->oGt x y Q':=by intro x y Q Q' h;cases x <;> cases y <;> intro q <;> first|exact h _ q|exact q|exact⟨q.1,h _ q.2⟩|exact⟨q.1,q.2.1,q.2.2.1,h _ q.2.2.2⟩|exact⟨q.1,q.2.1,q.2.2.1,fun k e=>h _ (q.2.2.2 k e)⟩|exact⟨q.1,q.2.1,q.2.2.1,q.2.2.2.1,fun k e=>h _ (q.2.2.2.2 k e)⟩
theorem oGe.mono:∀{x y Q Q'},(∀ d,Q d->Q' d)->oGe x y Q->oGe x y Q':=by intro x y Q Q' h;cases x <;> cases y <;> intro q <;> first|exact h _ q|exact q|exact⟨q.1,h _ q.2⟩|exact⟨q.1,q.2.1,q.2.2.1,h _ q.2.2.2⟩|exact⟨q.1,q.2.1,q.2.2.1,fun k e=>h _ (q.2.2.2 k e)⟩|exact⟨q.1,q.2.1,q.2.2.1,q.2.2.2.1,fun k e=>h _ (q.2.2.2.2 k e)⟩
theorem oEq.mono{neg:Bool}:∀{x y Q Q'},(∀ d,Q d->Q' d)->oEq neg x y Q->oEq neg x y Q':=by intro x y Q Q' h;cases x <;> cases y <;> intro q <;> first|exact h _ q|exact q|exact⟨q.1,h _ q.2⟩|exact⟨q.1,q.2.1,q.2.2.1,h _ q.2.2.2⟩|exact⟨q.1,q.2.1,q.2.2.1,fun k e=>h _ (q.2.2.2 k e)⟩|exact⟨q.1,q.2.1,q.2.2.1,q.2.2.2.1,fun k e=>h _ (q.2.2.2.2 k e)⟩
theorem oIs.mono{neg:Bool}:∀{x y Q Q'},(∀ d,Q d->Q' d)->oIs neg x y Q->oIs neg x y Q':=by intro x y Q Q' h;cases x <;> cases y <;> intro q <;> first|exact h _ q|exact q|exact⟨q.1,h _ q.2⟩|exact⟨q.1,q.2.1,q.2.2.1,h _ q.2.2.2⟩|exact⟨q.1,q.2.1,q.2.2.1,fun k e=>h _ (q.2.2.2 k e)⟩|exact⟨q.1,q.2.1,q.2.2.1,q.2.2.2.1,fun k e=>h _ (q.2.2.2.2 k e)⟩
theorem oCmp.mono{op:CmpOp}:∀{x y Q Q'},(∀ d,Q d->Q' d)->oCmp op x y Q->oCmp op x y Q':=by
 cases op;all_goals first|exact oLt.mono|exact oLe.mono|exact oGt.mono|exact oGe.mono|exact oEq.mono|exact oIs.mono|exact oIn.mono
def Rng(X:Cx)(g:Value->Value->Sem Value)(o:OD):Prop:=∃ r,OpR X g r/\RD X.K r o
theorem Rng.never{g:Value->Value->Sem Value}:Rng X g qR:=⟨fun _ _ _ _=>False,fun _ _ _ _ _ _ _ _ _ _ _ _ h=>h.elim,fun _ _ _ _ _ _ _ _ _ _ _ _ _ h=>h.elim⟩
theorem yn:Rng X (binaryOp .Add) oAdd:=by
 refine⟨_,OpR.or2 ka (OpR.or2 qQ (OpR.or2 yN (OpR.or2 wq (AK X.K)))),?_⟩;intro f O σ ss H dx dy x y Q R rx ry h;cases dx <;> cases dy <;> first|(exact False.elim h)|skip
 ·rename_i i j;cases rx;cases ry;exact .inl ⟨i,j,rfl,rfl,h _ H (Ex.refl R.fl) rfl⟩
 ·rename_i i j;cases rx;cases ry;exact .inr (.inl ⟨i,j,rfl,rfl,h.1,h.2 _ H (Ex.refl R.fl) rfl⟩)
 ·rename_i la lb;obtain⟨a,xs,rfl,h1,h2⟩:=rx;obtain⟨b,ys,rfl,h3,h4⟩:=ry;obtain⟨hl,q⟩:=h;cases la with
  | nil =>
   cases (show xs=[] from h2);exact .inr (.inr (.inr (.inr ⟨a,b,ys,rfl,rfl,h1,h3,q _ H (Ex.refl R.fl) ⟨b,ys,rfl,h3,h4⟩⟩)))
  | cons d la =>
   refine .inr (.inr (.inr (.inl ⟨a,b,xs,ys,rfl,rfl,h1,h3,?_,by rw [h2.len,h4.len];exact hl,fun e=>?_,fun e p hp=>?_⟩)))
   ·obtain⟨v,r,e,_⟩:=h2;rw [e];simp
   ·subst e;cases lb with
    | nil =>
     refine q _ H (Ex.refl R.fl) ⟨a,xs,rfl,h1,?_⟩;rw [aD];exact h2
    | cons=>obtain⟨v,r,e,_⟩:=h4;cases e
   ·exact q _ _ (R.new hp _) (R.tup hp (h2.append h4))
 ·rename_i la lb;obtain⟨a,xs,rfl,n1,h1,h2⟩:=rx;obtain⟨b,ys,rfl,n2,h3,h4⟩:=ry;exact .inr (.inr (.inl ⟨a,b,xs,ys,rfl,rfl,h1,h3,by rw [h2.len,h4.len];exact h.1,fun p hp=>h.2 _ _ (R.new hp _) (R.lst hp (h2.append h4))⟩))
theorem me{g:Value->Value->Sem Value}{C:Int->Int->Prop}{w:Int->Int->Int}{o:OD}(h:OpR X g (rI C fun i j=>.int (w i j)))(ho:∀ dx dy Q,o dx dy Q->∃ i j,dx = .int i/\dy = .int j/\C i j/\Q (.int (w i j))):Rng X g o:=by
 refine⟨_,h,fun f O σ ss H dx dy x y Q R rx ry h=>?_⟩;obtain⟨i,j,rfl,rfl,c,q⟩:=ho _ _ _ h;cases rx;cases ry;exact⟨i,j,rfl,rfl,c,q _ H (Ex.refl R.fl) rfl⟩
theorem mP{g:Value->Value->Sem Value}{w:Int->Int->Bool}{o:OD}(h:OpR X g (ut fun i j=>.bl (w i j)))(ho:∀ dx dy Q,o dx dy Q->∃ i j,dx = .int i/\dy = .int j/\Q (.bl (w i j))):Rng X g o:=by
 refine⟨_,h,fun f O σ ss H dx dy x y Q R rx ry h=>?_⟩;obtain⟨i,j,rfl,rfl,q⟩:=ho _ _ _ h;cases rx;cases ry;exact⟨i,j,rfl,rfl,q _ H (Ex.refl R.fl) rfl⟩
theorem yl:Rng X (binaryOp .Mult) oMul:=by
 refine⟨_,OpR.or2 wo (OpR.or2 uP (OpR.or2 wj wn)),?_⟩;intro f O σ ss H dx dy x y Q R rx ry h;cases dx <;> cases dy <;> first|(exact False.elim h)|skip
 ·rename_i i j;cases rx;cases ry;exact .inl ⟨i,j,rfl,rfl,h.1,h.2 _ H (Ex.refl R.fl) rfl⟩
 ·cases rx;cases ry;exact .inr (.inr (.inr ⟨_,_,rfl,rfl,h.1,h.2.1,h.2.2.1,h.2.2.2 _ H (Ex.refl R.fl) rfl⟩))
 ·rename_i la k;obtain⟨a,xs,rfl,h1,h2⟩:=rx;cases ry;obtain⟨z1,z2,z3,q⟩:=h;obtain⟨k,rfl⟩:=aI (show 0<=k by first|lia|omega);rw [aX] at z3 q;refine .inr (.inr (.inl ⟨a,xs,k,rfl,rfl,h1,fun z=>z1 ?_,by first|lia|omega,by rw [h2.len];exact z3,fun e=>?_,fun _ p hp=>q _ _ (R.new hp _) (R.tup hp (h2.flat _))⟩))
  ·have:=h2.len;rw [z] at this;exact cc.mp this.symm
  ·refine q _ H (Ex.refl R.fl) ⟨a,xs,rfl,h1,?_⟩;rw [e,aW,List.replicate_zero,bj,List.flatten_nil,aD];exact h2
 ·rename_i la k;obtain⟨a,xs,rfl,n1,h1,h2⟩:=rx;cases ry;exact .inr <| .inl ⟨a,k,xs,rfl,rfl,h1,h.1,h.2.1,by rw [h2.len];exact h.2.2.1,fun p hp=>h.2.2.2 _ _ (R.new hp _) (R.lst hp (h2.flat _))⟩
theorem ym{k:Nat}(hr:Room k X.A)(op:Operator):Rng X (binaryOp op) (oBin op):=by
 cases op;case Add=>exact yn
 case Mult=>exact yl
 case Sub =>
  refine⟨_,yH,fun f O σ ss H dx dy x y Q R rx ry h=>?_⟩;cases dx <;> cases dy <;> first|(exact False.elim h)|skip
  cases rx;cases ry;exact⟨_,_,rfl,rfl,h _ H (Ex.refl R.fl) rfl⟩
 case FloorDiv=>exact me (pU hr) fun dx dy Q h=>by cases dx <;> cases dy <;> first|(exact False.elim h)|exact⟨_,_,rfl,rfl,h.1,h.2⟩
 case Mod=>exact me wp fun dx dy Q h=>by cases dx <;> cases dy <;> first|(exact False.elim h)|exact⟨_,_,rfl,rfl,h.1,h.2⟩
 case Pow=>exact me uQ fun dx dy Q h=>by cases dx <;> cases dy <;> first|(exact False.elim h)|exact⟨_,_,rfl,rfl,h.1,h.2⟩
 case LShift=>exact me yI fun dx dy Q h=>by cases dx <;> cases dy <;> first|(exact False.elim h)|exact⟨_,_,rfl,rfl,h.1,h.2⟩
 all_goals exact Rng.never
theorem z8{k:Nat}(hr:Room k X.A):Rng X (compareOp .Eq) (oEq false):=by
 refine⟨_,OpR.or2 pV (OpR.or2 (C0 X.K hr) (B0 X.K hr)),?_⟩;intro f O σ ss H dx dy x y Q R rx ry h;cases dx <;> cases dy <;> first|(exact False.elim h)|skip
 ·rename_i i j;cases rx;cases ry;refine .inl ⟨rfl,?_⟩;have e:(decide (V.bl i=V.bl j))=decide (i=j):=by cases i <;> cases j <;> rfl
  rw [e];exact h _ H (Ex.refl R.fl) rfl
 ·rename_i i j;cases rx;cases ry;refine .inl ⟨rfl,?_⟩;have e:(decide (V.int i=V.int j))=decide (i=j):=by simp
  rw [e];exact h _ H (Ex.refl R.fl) rfl
 ·rename_i i j;cases rx;cases ry;refine .inl ⟨rfl,?_⟩;have e:(decide (V.str i=V.str j))=decide (i=j):=by simp
  rw [e];exact h _ H (Ex.refl R.fl) rfl
 ·rename_i la lb;obtain⟨p1,p2,p3,q⟩:=h;refine .inr (.inl ⟨D.dvs la,D.dvs lb,Rp.rep (d:=.tup la) p1 rx,Rp.rep (d:=.tup lb) p2 ry,D.dvs_pl p1,D.dvs_pl p2,by rw [D.dvs_dp];exact p3,fun b hb=>?_⟩);exact q b (hb.trans ⟨fun e=>D.dvs_inj p1 p2 e,fun e=>by rw [e]⟩) _ H (Ex.refl R.fl) rfl
 ·rename_i la lb;obtain⟨_,p1,p2,p3,q⟩:=h;refine .inr (.inr ⟨D.dvs la,D.dvs lb,Rp.rep (d:=.lst la) p1 rx,Rp.rep (d:=.lst lb) p2 ry,D.dvs_pl p1,D.dvs_pl p2,by rw [D.dvs_dp];exact p3,fun b hb=>?_⟩);exact q b (hb.trans ⟨fun e=>D.dvs_inj p1 p2 e,fun e=>by rw [e]⟩) _ H (Ex.refl R.fl) rfl
theorem z6{k:Nat}(hr:Room k X.A):Rng X (compareOp .NotEq) (oEq true):=by
 refine⟨_,OpR.or2 uR (OpR.or2 (CU X.K hr) (BG X.K hr)),?_⟩;intro f O σ ss H dx dy x y Q R rx ry h;cases dx <;> cases dy <;> first|(exact False.elim h)|skip
 ·rename_i i j;cases rx;cases ry;refine .inl ⟨rfl,?_⟩;have e:(decide (V.bl i=V.bl j))=decide (i=j):=by cases i <;> cases j <;> rfl
  rw [e];exact h _ H (Ex.refl R.fl) rfl
 ·rename_i i j;cases rx;cases ry;refine .inl ⟨rfl,?_⟩;have e:(decide (V.int i=V.int j))=decide (i=j):=by simp
  rw [e];exact h _ H (Ex.refl R.fl) rfl
 ·rename_i i j;cases rx;cases ry;refine .inl ⟨rfl,?_⟩;have e:(decide (V.str i=V.str j))=decide (i=j):=by simp
  rw [e];exact h _ H (Ex.refl R.fl) rfl
 ·rename_i la lb;obtain⟨p1,p2,p3,q⟩:=h;refine .inr (.inl ⟨D.dvs la,D.dvs lb,Rp.rep (d:=.tup la) p1 rx,Rp.rep (d:=.tup lb) p2 ry,D.dvs_pl p1,D.dvs_pl p2,by rw [D.dvs_dp];exact p3,fun b hb=>?_⟩);exact q b (hb.trans ⟨fun e=>D.dvs_inj p1 p2 e,fun e=>by rw [e]⟩) _ H (Ex.refl R.fl) rfl
 ·rename_i la lb;obtain⟨_,p1,p2,p3,q⟩:=h;refine .inr (.inr ⟨D.dvs la,D.dvs lb,Rp.rep (d:=.lst la) p1 rx,Rp.rep (d:=.lst lb) p2 ry,D.dvs_pl p1,D.dvs_pl p2,by rw [D.dvs_dp];exact p3,fun b hb=>?_⟩);exact q b (hb.trans ⟨fun e=>D.dvs_inj p1 p2 e,fun e=>by rw [e]⟩) _ H (Ex.refl R.fl) rfl
theorem z7:Rng X (compareOp .Is) (oIs false):=by
 refine⟨_,yK,fun f O σ ss H dx dy x y Q R rx ry h=>?_⟩;cases dy <;> first|(exact False.elim h)|skip
 cases ry;refine⟨rfl,?_⟩;cases dx;case tup=>obtain⟨a,xs,rfl,_⟩:=rx;exact h _ H (Ex.refl R.fl) rfl
 case lst=>obtain⟨a,xs,rfl,_⟩:=rx;exact h _ H (Ex.refl R.fl) rfl
 case exn=>obtain⟨a,xs,rfl,_⟩:=rx;exact h _ H (Ex.refl R.fl) rfl
 case dct=>obtain⟨a,xs,rfl,_⟩:=rx;exact h _ H (Ex.refl R.fl) rfl
 all_goals (cases rx;exact h _ H (Ex.refl R.fl) rfl)
theorem uo:Rng X (compareOp .IsNot) (oIs true):=by
 refine⟨_,wl,fun f O σ ss H dx dy x y Q R rx ry h=>?_⟩;cases dy <;> first|(exact False.elim h)|skip
 cases ry;refine⟨rfl,?_⟩;cases dx;case tup=>obtain⟨a,xs,rfl,_⟩:=rx;exact h _ H (Ex.refl R.fl) rfl
 case lst=>obtain⟨a,xs,rfl,_⟩:=rx;exact h _ H (Ex.refl R.fl) rfl
 case exn=>obtain⟨a,xs,rfl,_⟩:=rx;exact h _ H (Ex.refl R.fl) rfl
 case dct=>obtain⟨a,xs,rfl,_⟩:=rx;exact h _ H (Ex.refl R.fl) rfl
 all_goals (cases rx;exact h _ H (Ex.refl R.fl) rfl)
theorem Rps.strs:∀{zs:List Str} {vs:List V},Rps K f O H (zs.map D.str) vs->vs=zs.map V.str
 | [],_,h=>h
 | z::zs,_,h=>by
  obtain⟨v,r,e1,h1,h2⟩:=h;rw [e1,Rps.strs h2,show v = .str z from h1];rfl
theorem sj(i:Int)(ns:List Int):zH (.int i) (ns.map V.int)=decide (i∈ns):=by
 apply aS.mpr;unfold zH;rw [cL,decide_eq_true_iff];constructor
 ·rintro⟨y,hy,e⟩;obtain⟨j,hj,rfl⟩:=bQ.mp hy;have e:(j == i)=true:=e;exact beq_iff_eq.mp e ▸ hj
 ·exact fun h=>⟨_,bQ.mpr ⟨i,h,rfl⟩,show (i == i)=true from beq_self_eq_true i⟩
theorem si(i:Str)(ns:List Str):zH (.str i) (ns.map V.str)=decide (i∈ns):=by
 apply aS.mpr;unfold zH;rw [cL,decide_eq_true_iff];constructor
 ·rintro⟨y,hy,e⟩;obtain⟨j,hj,rfl⟩:=bQ.mp hy;have e:(j == i)=true:=e;exact beq_iff_eq.mp e ▸ hj
 ·exact fun h=>⟨_,bQ.mpr ⟨i,h,rfl⟩,show (i == i)=true from beq_self_eq_true i⟩
theorem D.dvs_mem{x:D}:∀{l:List D},x.pl=true->D.pls l=true->(x.dv∈D.dvs l↔x∈l)
 | [],_,_=>⟨fun h=>(by cases h),fun h=>by cases h⟩
 | d::l,hx,hl=>by
  have h:=ad.mp (show (d.pl && D.pls l)=true from hl);show x.dv∈d.dv::D.dvs l↔_;rw [ai,ai,D.dvs_mem hx h.2];exact or_congr ⟨fun e=>D.dv_inj hx h.1 e,fun e=>by rw [e]⟩ Iff.rfl
def yw(neg:Bool):R2:=fun x y H Q=>∃ i j,x = .str i/\y = .str j/\Q (.bl (if neg then !zb i j else zb i j)) H
theorem xC(neg:Bool):RD K (fun x y H Q=>Bz K neg x y H Q\/yx K neg x y H Q\/yw neg x y H Q) (oIn neg):=by
 rintro f O σ ss H dx dy x y Q R rx ry (⟨i,ns,rfl,hy,q⟩|⟨i,ns,rfl,hy,q⟩|⟨l,rfl,p1,p2,p3,q⟩|⟨i,j,rfl,rfl,q⟩)
 ·cases rx;have fl:(ns.map V.int).all kX=true:=by rw [dc];exact aQ.mpr fun _ _=>rfl
  rcases hy with rfl|rfl
  ·obtain⟨a,xs,rfl,_,h1,r1⟩:=ry;rw [Rps.ints r1] at h1;exact .inl ⟨a,_,rfl,.inl (SqL.of h1),rfl,fl,by rw [sj];exact q _ H (Ex.refl R.fl) rfl⟩
  ·obtain⟨a,xs,rfl,h1,r1⟩:=ry;rw [Rps.ints r1] at h1;exact .inl ⟨a,_,rfl,.inr h1,rfl,fl,by rw [sj];exact q _ H (Ex.refl R.fl) rfl⟩
 ·cases rx;have fl:(ns.map V.str).all kX=true:=by rw [dc];exact aQ.mpr fun _ _=>rfl
  rcases hy with rfl|rfl
  ·obtain⟨a,xs,rfl,_,h1,r1⟩:=ry;rw [Rps.strs r1] at h1;exact .inl ⟨a,_,rfl,.inl (SqL.of h1),rfl,fl,by rw [si];exact q _ H (Ex.refl R.fl) rfl⟩
  ·obtain⟨a,xs,rfl,h1,r1⟩:=ry;rw [Rps.strs r1] at h1;exact .inl ⟨a,_,rfl,.inr h1,rfl,fl,by rw [si];exact q _ H (Ex.refl R.fl) rfl⟩
 ·exact .inr <| .inl ⟨dx.dv,D.dvs l,Rp.rep p1 rx,Rp.rep (d:=.lst l) p2 ry,D.dv_pl p1,D.dvs_pl p2,by rw [D.dvs_dp];exact p3,fun b hb=>q b (hb.trans (D.dvs_mem p1 p2)) _ H (Ex.refl R.fl) rfl⟩
 ·cases rx;cases ry;exact .inr (.inr ⟨i,j,rfl,rfl,q _ H (Ex.refl R.fl) rfl⟩)
theorem mf{k:Nat}(hr:Room k X.A)(op:CmpOp):Rng X (compareOp op) (oCmp op):=by
 cases op;case Eq=>exact z8 hr
 case NotEq=>exact z6 hr
 case Lt=>exact mP xH fun dx dy Q h=>by cases dx <;> cases dy <;> first|(exact False.elim h)|exact⟨_,_,rfl,rfl,h⟩
 case LtE=>exact mP Ao fun dx dy Q h=>by cases dx <;> cases dy <;> first|(exact False.elim h)|exact⟨_,_,rfl,rfl,h⟩
 case Gt=>exact mP xI fun dx dy Q h=>by cases dx <;> cases dy <;> first|(exact False.elim h)|exact⟨_,_,rfl,rfl,h⟩
 case GtE=>exact mP xJ fun dx dy Q h=>by cases dx <;> cases dy <;> first|(exact False.elim h)|exact⟨_,_,rfl,rfl,h⟩
 case Is=>exact z7
 case IsNot=>exact uo
 case In=>exact⟨_,OpR.or2 s9 (OpR.or2 (yL X.K hr) (show OpR X (compareOp .In) (yw false) from sZ)),xC false⟩
 case NotIn=>exact⟨_,OpR.or2 oO (OpR.or2 (sY X.K hr) (show OpR X (compareOp .NotIn) (yw true) from oN)),xC true⟩
end Dp
namespace Dp
open PySem L2
variable{K:Frag}{Jx:Hp->Prop}{f:Addr}{O O':List Addr}{H H':Hp}{X:Cx}{σ:St}{ss:SS}{a b c:Expr}{ta tb tc:TEd}{tA tB:TTd}{pos:Pos}
def dW(op:Operator)(a b:TEd):TEd:=d2 (oBin op) oBin.mono a b
theorem dW.ok{k:Nat}{op:Operator}(hr:Room k X.A)(ha:PE X a (LE X.K Jx ta))(hb:PE X b (LE X.K Jx tb)):PE X (.BinOp a op b pos) (LE X.K Jx (dW op ta tb)):=by
 obtain⟨r,h,hr⟩:=ym (X:=X) hr op;exact d2.ok hr (jB h ha hb)
def d7(op:CmpOp)(a b:TEd):TEd:=d2 (oCmp op) oCmp.mono a b
theorem d7.ok{k:Nat}{op:CmpOp}(hr:Room k X.A)(ha:PE X a (LE X.K Jx ta))(hb:PE X b (LE X.K Jx tb))(hm:behindInMarks op b=false):PE X (.Compare a [op] [b] pos) (LE X.K Jx (d7 op ta tb)):=by
 obtain⟨r,h,hr⟩:=mf hr op;exact d2.ok hr (mS h ha hb hm)
def dZ(t:TEd):TTd:=⟨fun ss Q=>t.run ss fun d=>match d with | .bl b=>Q b|_=>False,fun {ss Q Q'} h q=>t.mono (fun d q=>by
 revert q;cases d <;> first|exact h _|exact id) q⟩
theorem LE.test{t:TEd}{σ:St}{H:Hp}{Q:Bool->Hp->Prop}(h:LT X.K Jx (dZ t) σ H Q):ug (LE X.K Jx t) σ H Q:=by
 obtain⟨f,O,ss,R,q⟩:=h;refine⟨f,O,ss,R,t.mono (fun d q v H' e r=>?_) q⟩;cases d <;> first|exact False.elim q|skip
 cases r;exact⟨_,rfl,q H' e⟩
theorem d7.test{k:Nat}{op:CmpOp}(hr:Room k X.A)(ha:PE X a (LE X.K Jx ta))(hb:PE X b (LE X.K Jx tb))(hm:behindInMarks op b=false):PT X (.Compare a [op] [b] pos) (LT X.K Jx (dZ (d7 op ta tb))):=by
 obtain⟨r,h,hr⟩:=mf hr op;refine (j9 (pos:=pos) h ha hb hm).weak fun σ H Q q=>?_;have q:=LE.test q;obtain⟨f,O,ss,R,q⟩:=q;refine⟨f,O,ss,R,ta.mono (fun dx q v1 H1 e1 r1=>?_) q⟩;refine⟨f,O,ss,R.ex e1,tb.mono (fun dy q v2 H2 e2 r2=>?_) q⟩;exact hr f O σ ss H2 dx dy v1 v2 _ ((R.ex e1).ex e2).tr ((R.ex e1).up e2 r1) r2 (oCmp.mono (fun d q v H' e3 r3=>q v H' (e1.trans (e2.trans e3)) r3) q)
def eJ(op op':CmpOp)(a b c:TEd):TEd:=⟨fun ss Q=>a.run ss fun x=>b.run ss fun y=>oCmp op x y fun z=>match z with | .bl k=>if k=true then c.run ss fun w=>oCmp op' y w Q else Q (.bl false)|_=>False,fun {ss Q Q'} h q=>a.mono (fun x q=>b.mono (fun y q=>oCmp.mono (fun d q=>by
 revert q;cases d <;> first|exact id|skip
 rename_i k;cases k
 ·exact h _
 ·exact c.mono fun w q=>oCmp.mono h q) q) q) q⟩
theorem eJ.test{k:Nat}{op op':CmpOp}(hr:Room k X.A)(ha:PE X a (LE X.K Jx ta))(hb:PE X b (LE X.K Jx tb))(hc:PE X c (LE X.K Jx tc))(hm:lastMarks [op,op'] [b,c]=false):PT X (.Compare a [op,op'] [b,c] pos) (LT X.K Jx (dZ (eJ op op' ta tb tc))):=by
 obtain⟨r,h,h1⟩:=mf hr op;obtain⟨r',h',h2⟩:=mf hr op';refine (uw (pos:=pos) h h' ha hb hc hm).weak fun σ H Q q=>?_;have q:=LE.test q;obtain⟨f,O,ss,R,q⟩:=q;refine⟨f,O,ss,R,ta.mono (fun dx q v1 H1 e1 r1=>?_) q⟩;refine⟨f,O,ss,R.ex e1,tb.mono (fun dy q v2 H2 e2 r2=>?_) q⟩;have R2:=(R.ex e1).ex e2;refine h1 f O σ ss H2 dx dy v1 v2 _ R2.tr ((R.ex e1).up e2 r1) r2 (oCmp.mono (fun d q v H3 e3 r3=>?_) q);cases d <;> first|exact False.elim q|skip
 rename_i k;cases r3;refine⟨k,rfl,?_⟩;cases k
 ·exact q _ H3 (e1.trans (e2.trans e3)) rfl
 ·have R3:=R2.ex e3;refine⟨f,O,ss,R3,tc.mono (fun dz q v4 H4 e4 r4=>?_) q⟩;exact h2 f O σ ss H4 dy dz v2 v4 _ (R3.ex e4).tr (R3.up e4 (R2.up e3 r2)) r4 (oCmp.mono (fun d q v H' e5 r5=>q v H' (e1.trans (e2.trans (e3.trans (e4.trans e5)))) r5) q)
theorem eJ.ok{k:Nat}{op op':CmpOp}(hr:Room k X.A)(ha:PE X a (LE X.K Jx ta))(hb:PE X b (LE X.K Jx tb))(hc:PE X c (LE X.K Jx tc))(hm:lastMarks [op,op'] [b,c]=false):PE X (.Compare a [op,op'] [b,c] pos) (LE X.K Jx (eJ op op' ta tb tc)):=by
 obtain⟨r,h,h1⟩:=mf hr op;obtain⟨r',h',h2⟩:=mf hr op';refine (uE (pos:=pos) h h' ha hb hc hm).weak fun σ H Q q=>?_;obtain⟨f,O,ss,R,q⟩:=q;refine⟨f,O,ss,R,ta.mono (fun dx q v1 H1 e1 r1=>?_) q⟩;refine⟨f,O,ss,R.ex e1,tb.mono (fun dy q v2 H2 e2 r2=>?_) q⟩;have R2:=(R.ex e1).ex e2;refine h1 f O σ ss H2 dx dy v1 v2 _ R2.tr ((R.ex e1).up e2 r1) r2 (oCmp.mono (fun d q v H3 e3 r3=>?_) q);cases d <;> first|exact False.elim q|skip
 rename_i k;cases r3;refine⟨k,rfl,?_⟩;cases k
 ·exact q _ H3 (e1.trans (e2.trans e3)) rfl
 ·have R3:=R2.ex e3;refine⟨f,O,ss,R3,tc.mono (fun dz q v4 H4 e4 r4=>?_) q⟩;exact h2 f O σ ss H4 dy dz v2 v4 _ (R3.ex e4).tr (R3.up e4 (R2.up e3 r2)) r4 (oCmp.mono (fun d q v H' e5 r5=>q v H' (e1.trans (e2.trans (e3.trans (e4.trans e5)))) r5) q)
def hW(a:TEd):TEd:=⟨fun ss Q=>a.run ss fun d=>match d with | .int i=>Q (.int (-i))|_=>False,fun {ss Q Q'} h q=>a.mono (fun d q=>by
 revert q;cases d <;> first|exact h _|exact id) q⟩
theorem hW.ok(ha:PE X a (LE X.K Jx ta)):PE X (.UnaryOp .USub a pos) (LE X.K Jx (hW ta)):=(xF (pos:=pos) ub ha).weak fun σ H Q ⟨f,O,ss,R,q⟩=>⟨f,O,ss,R,ta.mono (fun d q v H1 e r=>by
 cases d <;> first|exact False.elim q|skip
 cases r;exact⟨_,rfl,q _ H1 e rfl⟩) q⟩
def truD:D->(Bool->Prop)->Prop
 | .non,Q=>Q false
 | .bl b,Q=>Q b
 | .int i,Q=>Q (i != 0)
 | .str y,Q=>y.length<=sizeLine/\Q ((y.length:Int) != 0)
 | .tup l,Q=>Q (!l.isEmpty)
 | .lst l,Q=>Q (!l.isEmpty)
 | .fl,_=>False
 | .exn _ _ _,_=>False
 | .dct _ _,_=>False
 | .fn _,_=>False
theorem truD.mono:∀{d:D} {Q Q':Bool->Prop},(∀ b,Q b->Q' b)->truD d Q->truD d Q'
 | .non,_,_,h,q=>h _ q
 | .bl _,_,_,h,q=>h _ q
 | .int _,_,_,h,q=>h _ q
 | .str _,_,_,h,q=>⟨q.1,h _ q.2⟩
 | .tup _,_,_,h,q=>h _ q
 | .lst _,_,_,h,q=>h _ q
 | .fl,_,_,_,q=>q
 | .exn _ _ _,_,_,_,q=>q
 | .dct _ _,_,_,_,q=>q
 | .fn _,_,_,_,q=>q
theorem Rps.empty:∀{ds:List D} {vs:List V},Rps K f O H ds vs->vs.isEmpty=ds.isEmpty
 | [],_,h=>by rw [show _=[] from h];rfl
 | _::_,_,h=>by obtain⟨v,r,e,_⟩:=h;rw [e];rfl
def eM(a:TEd):TTd:=⟨fun ss Q=>a.run ss fun d=>truD d Q,fun h q=>a.mono (fun d q=>truD.mono h q) q⟩
theorem eM.ok(ha:PE X a (LE X.K Jx ta))(he:∀ whole,isTrue a X.env whole=(do let v ← whole;standAt a.pos;holding [v] (truthy v))):PT X a (LT X.K Jx (eM ta)):=(pR ha he).weak fun σ H Q ⟨f,O,ss,R,q⟩=>⟨f,O,ss,R,ta.mono (fun d q v H1 e r=>by
 cases d;case non=>cases r;exact⟨false,rfl,q H1 e⟩
 case bl=>cases r;exact⟨_,rfl,q H1 e⟩
 case int=>cases r;exact⟨_,rfl,q H1 e⟩
 case str=>cases r;exact⟨_,⟨q.1,rfl⟩,q.2 H1 e⟩
 case tup l =>
  obtain⟨p,xs,rfl,h1,h2⟩:=r;exact⟨_,.inr (.inl ⟨xs,h1,by rw [h2.empty]⟩),q H1 e⟩
 case lst l =>
  obtain⟨p,xs,rfl,_,h1,h2⟩:=r;exact⟨_,.inl ⟨xs,SqL.of h1,by rw [h2.empty]⟩,q H1 e⟩
 case fl=>exact False.elim q
 case exn=>exact False.elim q
 case dct=>exact False.elim q
 case fn=>exact False.elim q) q⟩
def fP(a b:TTd):TTd:=⟨fun ss Q=>a.run ss fun k=>if k=true then b.run ss Q else Q false,fun {ss Q Q'} h q=>a.mono (fun k q=>by
 revert q;cases k
 ·exact h _
 ·exact b.mono h) q⟩
def eZ(a b:TTd):TTd:=⟨fun ss Q=>a.run ss fun k=>if k=true then Q true else b.run ss Q,fun {ss Q Q'} h q=>a.mono (fun k q=>by
 revert q;cases k
 ·exact b.mono h
 ·exact h _) q⟩
def eG(a:TTd):TTd:=⟨fun ss Q=>a.run ss fun k=>Q (!k),fun h q=>a.mono (fun k q=>h _ q) q⟩
theorem fP.weak{σ:St}{H:Hp}{Q:Bool->Hp->Prop}(h:LT X.K Jx (fP tA tB) σ H Q):zY (LT X.K Jx tA) (LT X.K Jx tB) σ H Q:=by
 obtain⟨f,O,ss,S,q⟩:=h;refine⟨f,O,ss,S,tA.mono (fun k q H1 e=>?_) q⟩;cases k
 ·exact q H1 e
 ·exact⟨f,O,ss,S.ex e,tB.mono (fun k q H2 e2=>q H2 (e.trans e2)) q⟩
theorem eZ.weak{σ:St}{H:Hp}{Q:Bool->Hp->Prop}(h:LT X.K Jx (eZ tA tB) σ H Q):Cg (LT X.K Jx tA) (LT X.K Jx tB) σ H Q:=by
 obtain⟨f,O,ss,S,q⟩:=h;refine⟨f,O,ss,S,tA.mono (fun k q H1 e=>?_) q⟩;cases k
 ·exact⟨f,O,ss,S.ex e,tB.mono (fun k q H2 e2=>q H2 (e.trans e2)) q⟩
 ·exact q H1 e
theorem _root_.L2.PW.weak{e:Expr}{t t':TT}(h:PW X e t)(w:∀ σ H Q,t' σ H Q->t σ H Q):PW X e t':=fun wh pins s σ H Q I q=>h wh pins s σ H Q I (w σ H Q q)
theorem fP.ok{rest:List Expr}(ha:PT X a (LT X.K Jx tA))(hb:PW X (.BoolOp .And (b::rest) pos) (LT X.K Jx tB)):PW X (.BoolOp .And (a::b::rest) pos) (LT X.K Jx (fP tA tB)):=(uu ha hb).weak fun _ _ _=>fP.weak
theorem eZ.ok{rest:List Expr}(ha:PT X a (LT X.K Jx tA))(hb:PW X (.BoolOp .Or (b::rest) pos) (LT X.K Jx tB)):PW X (.BoolOp .Or (a::b::rest) pos) (LT X.K Jx (eZ tA tB)):=(Ak ha hb).weak fun _ _ _=>eZ.weak
theorem eG.ok(ha:PT X a (LT X.K Jx tA)):PT X (.UnaryOp .Not a pos) (LT X.K Jx (eG tA)):=(yz ha).weak fun σ H Q ⟨f,O,ss,S,q⟩=>⟨f,O,ss,S,q⟩
def iT(a b:TEd):TEd:=⟨fun ss Q=>a.run ss fun d=>match d with | .bl k=>if k=true then b.run ss Q else Q (.bl false)|_=>False,fun {ss Q Q'} h q=>a.mono (fun d q=>by
 revert q;cases d <;> first|exact id|skip
 rename_i k;cases k
 ·exact h _
 ·exact b.mono h) q⟩
def dOr(a b:TEd):TEd:=⟨fun ss Q=>a.run ss fun d=>match d with | .bl k=>if k=true then Q (.bl true) else b.run ss Q|_=>False,fun {ss Q Q'} h q=>a.mono (fun d q=>by
 revert q;cases d <;> first|exact id|skip
 rename_i k;cases k
 ·exact b.mono h
 ·exact h _) q⟩
def iC(a:TEd):TEd:=⟨fun ss Q=>a.run ss fun d=>match d with | .bl k=>Q (.bl (!k))|_=>False,fun {ss Q Q'} h q=>a.mono (fun d q=>by
 revert q;cases d <;> first|exact h _|exact id) q⟩
theorem iT.ok{rest:List Expr}(ha:PE X a (LE X.K Jx ta))(hb:PE X (.BoolOp .And (b::rest) pos) (LE X.K Jx tb)):PE X (.BoolOp .And (a::b::rest) pos) (LE X.K Jx (iT ta tb)):=(qO ha hb).weak fun σ H Q ⟨f,O,ss,S,q⟩=>⟨f,O,ss,S,ta.mono (fun d q v H1 e r=>by
 cases d <;> first|exact False.elim q|skip
 rename_i k;cases r;refine⟨k,rfl,?_⟩;cases k
 ·exact q _ H1 e rfl
 ·exact⟨f,O,ss,S.ex e,tb.mono (fun k q v H2 e2 r=>q v H2 (e.trans e2) r) q⟩) q⟩
theorem dOr.ok{rest:List Expr}(ha:PE X a (LE X.K Jx ta))(hb:PE X (.BoolOp .Or (b::rest) pos) (LE X.K Jx tb)):PE X (.BoolOp .Or (a::b::rest) pos) (LE X.K Jx (dOr ta tb)):=(Am ha hb).weak fun σ H Q ⟨f,O,ss,S,q⟩=>⟨f,O,ss,S,ta.mono (fun d q v H1 e r=>by
 cases d <;> first|exact False.elim q|skip
 rename_i k;cases r;refine⟨k,rfl,?_⟩;cases k
 ·exact⟨f,O,ss,S.ex e,tb.mono (fun k q v H2 e2 r=>q v H2 (e.trans e2) r) q⟩
 ·exact q _ H1 e rfl) q⟩
theorem iC.ok(ha:PE X a (LE X.K Jx ta)):PE X (.UnaryOp .Not a pos) (LE X.K Jx (iC ta)):=(yF (pos:=pos) ha).weak fun σ H Q ⟨f,O,ss,S,q⟩=>⟨f,O,ss,S,ta.mono (fun d q v H1 e r=>by
 cases d <;> first|exact False.elim q|skip
 rename_i k;cases r;exact⟨k,rfl,q _ H1 e rfl⟩) q⟩
def gQ(c:TTd)(a b:TEd):TEd:=⟨fun ss Q=>c.run ss fun k=>if k=true then a.run ss Q else b.run ss Q,fun {ss Q Q'} h q=>c.mono (fun k q=>by
 revert q;cases k
 ·exact b.mono h
 ·exact a.mono h) q⟩
theorem gQ.ok(hc:PT X c (LT X.K Jx tA))(ha:PE X a (LE X.K Jx ta))(hb:PE X b (LE X.K Jx tb)):PE X (.IfExp c a b pos) (LE X.K Jx (gQ tA ta tb)):=(uD (pos:=pos) hc ha hb).weak fun σ H Q ⟨f,O,ss,S,q⟩=>⟨f,O,ss,S,tA.mono (fun k q H1 e=>by
 cases k
 ·exact⟨f,O,ss,S.ex e,tb.mono (fun k q v H2 e2 r=>q v H2 (e.trans e2) r) q⟩
 ·exact⟨f,O,ss,S.ex e,ta.mono (fun k q v H2 e2 r=>q v H2 (e.trans e2) r) q⟩) q⟩
def dS:TAd:=⟨fun _ Q=>Q [],fun h q=>h _ q⟩
def dP(a:TEd)(r:TAd):TAd:=⟨fun ss Q=>a.run ss fun d=>r.run ss fun ds=>Q (d::ds),fun h q=>a.mono (fun d q=>r.mono (fun ds q=>h _ q) q) q⟩
theorem dS.ok:PA X [] (LA X.K Jx dS):=pa_nil.weak fun σ H Q ⟨f,O,ss,S,q⟩=>q [] H (Ex.refl S.fl) rfl
theorem dP.ok{es:List Expr}{t:TAd}(ha:PE X a (LE X.K Jx ta))(hr:PA X es (LA X.K Jx t))(hs:starEach (a::es) X.env=(false,eval a X.env)::starEach es X.env):PA X (a::es) (LA X.K Jx (dP ta t)):=(jg ha hr hs).weak fun σ H Q ⟨f,O,ss,S,q⟩ =>
 ⟨f,O,ss,S,ta.mono (fun d q v H1 e r=>⟨f,O,ss,S.ex e,t.mono (fun ds q vs H2 e2 r2=>q (v::vs) H2 (e.trans e2) ⟨v,vs,rfl,(S.ex e).up e2 r,r2⟩) q⟩) q⟩
def fH(t:TAd):TEd:=⟨fun ss Q=>t.run ss fun ds=>ds.length<=sizeLine/\Q (.tup ds),fun h q=>t.mono (fun ds q=>⟨q.1,h _ q.2⟩) q⟩
def eX(t:TAd):TEd:=⟨fun ss Q=>t.run ss fun ds=>ds.length<=sizeLine/\Q (.lst ds),fun h q=>t.mono (fun ds q=>⟨q.1,h _ q.2⟩) q⟩
theorem fH.ok{es:List Expr}{t:TAd}{k:Nat}(h:PA X es (LA X.K Jx t)):PE X (.Tuple es k pos) (LE X.K Jx (fH t)):=(qK h).weak fun σ H Q ⟨f,O,ss,S,q⟩ =>
 ⟨f,O,ss,S,t.mono (fun ds q vs H1 e r=>⟨by rw [r.len];exact q.1,fun p hp=>q.2 _ _ (e.trans ((S.ex e).new hp _)) ((S.ex e).tup hp r)⟩) q⟩
theorem eX.ok{es:List Expr}{t:TAd}(h:PA X es (LA X.K Jx t)):PE X (.List es pos) (LE X.K Jx (eX t)):=(qM h).weak fun σ H Q ⟨f,O,ss,S,q⟩ =>
 ⟨f,O,ss,S,t.mono (fun ds q vs H1 e r=>⟨by rw [r.len];exact q.1,fun p hp=>q.2 _ _ (e.trans ((S.ex e).new hp _)) ((S.ex e).lst hp r)⟩) q⟩
def itD(l:List D)(i:Int)(Q:D->Prop):Prop:=match tV l i with|some d=>Q d|none=>False
theorem itD.mono{l:List D}{i:Int}{Q Q':D->Prop}(h:∀ d,Q d->Q' d):itD l i Q->itD l i Q':=by
 unfold itD;split
 ·exact h _
 ·exact id
theorem itD.rp{l:List D}{xs:List V}{i:Int}{Q:D->Prop}(r:Rps K f O H l xs)(q:itD l i Q):∃ v d,tV xs i=some v/\Rp K f O H d v/\Q d:=by
 unfold itD at q;split at q
 ·rename_i d e;unfold tV at e ⊢;rw [r.len];cases h:vO l.length i with
  | none=>rw [h] at e;cases e
  | some j =>
   rw [h] at e;obtain⟨v,h1,h2⟩:=r.get (show l[j]? = some d from e);exact⟨v,d,h1,h2,q⟩
 ·exact q.elim
def oIx:OD
 | .lst l,.int i,Q=>itD l i Q
 | .tup l,.int i,Q=>itD l i Q
 | .str z,.int i,Q=>z.length<=sizeLine/\∃ c,tV z.cps.toList i=some c/\Q (.str ⟨#[c]⟩)
 | .dct ks l,.int i,Q=>∃(j:Nat) (d:D),ks[j]? = some (Sum.inl i)/\l[j]? = some d/\Q d
 | .dct ks l,.str x,Q=>∃(j:Nat) (d:D),ks[j]? = some (Sum.inr x)/\l[j]? = some d/\Q d
 | _,_,_=>False
theorem oIx.mono:∀{x y Q Q'},(∀ d,Q d->Q' d)->oIx x y Q->oIx x y Q':=by
 intro x y Q Q' h;cases x <;> cases y <;> intro q <;> first|exact itD.mono h q|exact q|skip
 ·obtain⟨q0,c,q1,q2⟩:=q;exact⟨q0,c,q1,h _ q2⟩
 ·obtain⟨j,d,q0,q1,q2⟩:=q;exact⟨j,d,q0,q1,h _ q2⟩
 ·obtain⟨j,d,q0,q1,q2⟩:=q;exact⟨j,d,q0,q1,h _ q2⟩
def Ab(K:Frag):R2:=fun x y H Q=>AY K x y H Q\/Ae x y H Q
theorem u9:IxR X (Ab X.K):=ix_seq.or wN
theorem vt{ks:List mW}{l:List D}{us:List V}{j:Nat}{k:mW}{d:D}(h1:ks[j]? = some k)(h2:l[j]? = some d)(r:Rps K f O H l us):∃ v,(k,v)∈ks.zip us/\Rp K f O H d v:=by
 obtain⟨v,hv,rv⟩:=r.get h2;exact⟨v,aK (i:=j) (by rw [List.getElem?_zip_eq_some];exact⟨h1,hv⟩),rv⟩
theorem xB:RD X.K (Ab X.K) oIx:=by
 intro f O σ ss H dx dy x y Q R rx ry h;cases dx <;> cases dy <;> first|(exact False.elim h)|skip
 ·rename_i z i;cases rx;cases ry;obtain⟨q0,c,q1,q2⟩:=h;exact .inl (.inr (.inr ⟨z,i,c,rfl,rfl,q0,q1,q2 _ H (Ex.refl R.fl) rfl⟩))
 ·rename_i l i;obtain⟨p,xs,rfl,h1,h2⟩:=rx;cases ry;obtain⟨v,d,e,r,q⟩:=itD.rp h2 h;exact .inl (.inr (.inl ⟨p,xs,i,v,rfl,rfl,h1,e,q v H (Ex.refl R.fl) r⟩))
 ·rename_i l i;obtain⟨p,xs,rfl,_,h1,h2⟩:=rx;cases ry;obtain⟨v,d,e,r,q⟩:=itD.rp h2 h;exact .inl (.inl ⟨p,xs,i,v,rfl,rfl,SqL.of h1,e,q v H (Ex.refl R.fl) r⟩)
 ·rename_i ks l i;obtain⟨p,us,rfl,h1,h2,h3⟩:=rx;cases ry;obtain⟨j,d,e1,e2,q⟩:=h;obtain⟨v,hm,rv⟩:=vt e1 e2 h3;exact .inr ⟨p,_,.inl i,v,rfl,rfl,h1,hm,q v H (Ex.refl R.fl) rv⟩
 ·rename_i ks l x;obtain⟨p,us,rfl,h1,h2,h3⟩:=rx;cases ry;obtain⟨j,d,e1,e2,q⟩:=h;obtain⟨v,hm,rv⟩:=vt e1 e2 h3;exact .inr ⟨p,_,.inr x,v,rfl,rfl,h1,hm,q v H (Ex.refl R.fl) rv⟩
def dIx(a b:TEd):TEd:=d2 oIx oIx.mono a b
theorem dIx.ok(ha:PE X a (LE X.K Jx ta))(hb:PE X b (LE X.K Jx tb))(hs:mV b):PE X (.Subscript a b pos) (LE X.K Jx (dIx ta tb)):=d2.ok xB (jH u9 ha hb hs)
def itI(l:List D)(y:D)(Q:D->Prop):Prop:=match y with | .int j=>itD l j Q|_=>False
theorem itI.mono{l:List D}{y:D}{Q Q':D->Prop}(h:∀ d,Q d->Q' d):itI l y Q->itI l y Q':=by
 cases y <;> first|exact id|exact itD.mono h
def iU(i:Nat)(b:TEd):TEd:=⟨fun ss Q=>match ss[i]? with|some (.val d)=>b.run ss fun y=>oIx d y Q|some (.own l)=>b.run ss fun y=>itI l y Q|_=>False,fun {ss Q Q'} h q=>by
 revert q;split
 ·exact b.mono fun y=>oIx.mono h
 ·exact b.mono fun y=>itI.mono h
 ·exact id⟩
theorem iU.ok{i:Nat}(ha:PE X a (lC i))(hb:PE X b (LE X.K Jx tb))(hs:mV b):PE X (.Subscript a b pos) (LE X.K Jx (iU i tb)):=(jH (pos:=pos) u9 ha hb hs).weak fun σ H Q ⟨f,O,ss,R,q⟩=>by
 have q:(match ss[i]? with|some (.val d)=>tb.run ss fun y=>oIx d y (fun d=>∀ v H',Ex f H H'->Rp X.K f O H' d v->Q v H')|some (.own l)=>tb.run ss fun y=>itI l y (fun d=>∀ v H',Ex f H H'->Rp X.K f O H' d v->Q v H')|_=>False):=q;split at q
 ·rename_i d e;obtain⟨v,h1,h2⟩:=R.val i d e;refine⟨v,h1,f,O,ss,R,tb.mono (fun dy q y H1 e1 r1=>?_) q⟩;exact xB f O σ ss H1 d dy v y Q (R.ex e1).tr (R.up e1 h2) r1 (oIx.mono (fun d q v H' e r=>q v H' (e1.trans e) r) q)
 ·rename_i l e;obtain⟨p,xs,h1,h2,h3,h4,h5⟩:=R.own i l e;refine⟨_,h1,f,O,ss,R,tb.mono (fun dy q y H1 e1 r1=>?_) q⟩;cases dy <;> first|exact False.elim q|skip
  cases r1;obtain⟨v,d,e,r,q⟩:=itD.rp (R.ups e1 h5) q;exact .inl (.inl ⟨p,xs,_,v,rfl,rfl,SqL.of (e1.sm.app p _ h3 h4),e,q v H1 e1 r⟩)
 ·exact q.elim
def o8{α:Type}(xs:List α)(lo hi:Option Int):List α:=(xs.drop (HT.jF xs.length 0 lo)).take (HT.jF xs.length xs.length hi-HT.jF xs.length 0 lo)
theorem Rps.cut{ds:List D}{xs:List V}(r:Rps K f O H ds xs)(lo hi:Option Int):Rps K f O H (o8 ds lo hi) (ql xs lo hi):=by
 unfold o8 ql;rw [r.len];exact (r.drop _).take _
def dNo:TOd:=⟨fun _ Q=>Q none,fun h q=>h _ q⟩
def eH(t:TEd):TOd:=⟨fun ss Q=>t.run ss fun d=>match d with | .int i=>Q (some i)|_=>False,fun {ss Q Q'} h q=>t.mono (fun d q=>by
 revert q;cases d <;> first|exact h _|exact id) q⟩
theorem dNo.ok:PO X none (LO X.K Jx dNo):=po_none.weak fun σ H Q ⟨f,O,ss,S,q⟩=>q H (Ex.refl S.fl)
theorem eH.ok(ha:PE X a (LE X.K Jx ta)):PO X (some a) (LO X.K Jx (eH ta)):=(mQ ha).weak fun σ H Q ⟨f,O,ss,S,q⟩=>⟨f,O,ss,S,ta.mono (fun d q v H1 e r=>by
 cases d <;> first|exact False.elim q|skip
 cases r;exact⟨_,rfl,q H1 e⟩) q⟩
def slD(d:D)(lo hi:Option Int)(Q:D->Prop):Prop:=match d with
 | .lst l=>Q (.lst (o8 l lo hi))
 | .tup l=>True/\Q (.tup (o8 l lo hi))
 | .str z=>z.length<=sizeLine/\Q (.str (StrLaws.sliceText z lo hi))
 | _=>False
theorem slD.mono{d:D}{lo hi:Option Int}{Q Q':D->Prop}(h:∀ d,Q d->Q' d):slD d lo hi Q->slD d lo hi Q':=by
 cases d <;> intro q <;> first|exact h _ q|exact⟨q.1,h _ q.2⟩|exact q
theorem uj:SlR X (fun x lo hi H Q=>∃ a xs,x = .ref a/\SqT X.K H a xs/\(HT.jF xs.length 0 lo=0/\HT.jF xs.length xs.length hi=xs.length)/\Q (.ref a) H):=by
 intro pins s σ H x v vl vu lo hi sl Q I rx hs pl pu h;obtain⟨a,xs,e,hx,hw,q⟩:=h;subst e;cases rx;obtain⟨its,r,ht,hz⟩:=I.tuple hx;have hlen:its.toArray.size=xs.length:=by rw [af];exact r.length.symm
 exact⟨"tuple",_,PyProof.Rows.slot_tuple_getitem.lookup,ht.typeIs,HT.kR ht hs pl pu (by rw [hlen];exact hw) ⟨.ref a,H,I,rfl,q⟩⟩
def dSl(a:TEd)(l u:TOd):TEd:=⟨fun ss Q=>a.run ss fun d=>l.run ss fun lo=>u.run ss fun hi=>slD d lo hi Q,fun h q=>a.mono (fun d q=>l.mono (fun lo q=>u.mono (fun hi q=>slD.mono h q) q) q) q⟩
theorem dSl.ok{lo hi:Option Expr}{tl tu:TOd}{p2:Pos}(ha:PE X a (LE X.K Jx ta))(hl:PO X lo (LO X.K Jx tl))(hu:PO X hi (LO X.K Jx tu)):PE X (.Subscript a (.Slice lo hi none p2) pos) (LE X.K Jx (dSl ta tl tu)):=by
 refine (uC (pos:=pos) (p2:=p2) (sl_str.or (sl_list.or (sl_tup.or uj))) ha hl hu).weak fun σ H Q ⟨f,O,ss,S,q⟩=>?_;refine⟨f,O,ss,S,ta.mono (fun d q v H1 e1 r=>?_) q⟩;have S1:=S.ex e1;refine⟨f,O,ss,S1,tl.mono (fun lo q H2 e2=>?_) q⟩;have S2:=S1.ex e2;refine⟨f,O,ss,S2,tu.mono (fun hi q H3 e3=>?_) q⟩;have S3:=S2.ex e3;have r:=S2.up e3 (S1.up e2 r);cases d <;> first|exact False.elim q|skip
 ·cases (show v=_ from r);exact .inl ⟨_,rfl,q.1,q.2 _ _ (e1.trans (e2.trans e3)) rfl⟩
 ·have r':=r;obtain⟨p,xs,rfl,h1,h2⟩:=r;by_cases hw:HT.jF xs.length 0 lo=0/\HT.jF xs.length xs.length hi=xs.length
  ·refine .inr (.inr (.inr ⟨p,xs,rfl,h1,hw,q.2 _ _ (e1.trans (e2.trans e3)) ?_⟩));unfold o8;rw [← h2.len,hw.1,hw.2,bU,Nat.sub_zero,h2.len,List.take_length];exact r'
  ·exact .inr (.inr (.inl ⟨p,xs,rfl,h1,hw,fun p hp=>q.2 _ _ (e1.trans (e2.trans (e3.trans (S3.new hp _)))) (S3.tup hp (h2.cut _ _))⟩))
 ·rename_i l;obtain⟨p,xs,rfl,_,h1,h2⟩:=r;exact .inr (.inl ⟨p,xs,rfl,SqL.of h1,fun p hp=>q _ _ (e1.trans (e2.trans (e3.trans (S3.new hp _)))) (S3.lst hp (h2.cut _ _))⟩)
def iD(a:TEd):TEd:=⟨fun ss Q=>a.run ss fun d=>match d with | .lst l=>Q (.lst l.reverse)|_=>False,fun {ss Q Q'} h q=>a.mono (fun d q=>by
 revert q;cases d <;> first|exact h _|exact id) q⟩
theorem iD.ok{j k:Nat}{p1 p2 p3:Pos}(ha:PE X a (LE X.K Jx ta)):PE X (.Subscript a (.Slice none none (some (.UnaryOp .USub (.Constant (.int 1) j p1) p3)) p2) pos) (LE X.K Jx (iD ta)):=by
 refine (nX (pos:=pos) (p2:=p2) (Bt X.K) ha po_none po_none (mQ (xF (pos:=p3) ub (jj (j:=j) (pos:=p1))))).weak fun σ H Q ⟨f,O,ss,S,q⟩=>?_;refine⟨f,O,ss,S,ta.mono (fun d q v H1 e1 r=>?_) q⟩;have S1:=S.ex e1;cases d <;> first|exact False.elim q|skip
 rename_i l;obtain⟨p,xs,rfl,_,h1,h2⟩:=r;exact⟨_,rfl,_,rfl,rfl,rfl,rfl,p,xs,rfl,SqL.of h1,fun p hp=>q _ _ (e1.trans (S1.new hp _)) (S1.lst hp h2.reverse)⟩
abbrev BD:=List D->(D->Prop)->Prop
def dB(o:BD)(m:∀{ds Q Q'},(∀ d,Q d->Q' d)->o ds Q->o ds Q')(t:TAd):TEd:=⟨fun ss Q=>t.run ss fun ds=>o ds Q,fun h q=>t.mono (fun ds q=>m h q) q⟩
def RC(K:Frag)(r:List V->Hp->VK->Prop)(o:BD):Prop:=∀(f:Addr) (O:List Addr) (σ:St) (ss:SS) (H:Hp) (ds:List D) (vs:List V) (Q:VK),SlD K (fun _=>True) f O σ H ss->Rps K f O H ds vs->o ds (fun d=>∀ v H',Ex f H H'->Rp K f O H' d v->Q v H')->r vs H Q
theorem dB.ok{e:Expr}{r:List V->Hp->VK->Prop}{o:BD}{m}{t:TAd}(hr:RC X.K r o)(h:PE X e (Bm r (LA X.K Jx t))):PE X e (LE X.K Jx (dB o m t)):=h.weak fun σ H Q ⟨f,O,ss,S,q⟩ =>
 ⟨f,O,ss,S,t.mono (fun ds q vs H1 e1 r1=>hr f O σ ss H1 ds vs Q (S.ex e1).tr r1 (m (fun d q v H' e r=>q v H' (e1.trans e) r) q)) q⟩
def RB(X:Cx)(g:Value)(o:BD):Prop:=∃ r,CallR X g r/\RC X.K r o
theorem CallR.or2{g:Value}{r r':List V->Hp->VK->Prop}(h:CallR X g r)(h':CallR X g r'):CallR X g (fun xs H Q=>r xs H Q\/r' xs H Q):=fun pins s σ H xs us Q I rx q=>q.elim (h pins s σ H xs us Q I rx) (h' pins s σ H xs us Q I rx)
def bLen:BD
 | [.lst l],Q=>Q (.int l.length)
 | [.tup l],Q=>Q (.int l.length)
 | [.str z],Q=>z.length<=sizeLine/\Q (.int z.length)
 | _,_=>False
def bAbs:BD
 | [.int i],Q=>Q (.int (if i<0 then -i else i))
 | _,_=>False
def bAll:BD
 | [.lst l],Q=>∃ bs:List Bool,l=bs.map D.bl/\Q (.bl (bs.all id))
 | _,_=>False
def bAny:BD
 | [.lst l],Q=>∃ bs:List Bool,l=bs.map D.bl/\Q (.bl (bs.any id))
 | _,_=>False
def bInt:BD
 | [.int i],Q=>Q (.int i)
 | [.bl k],Q=>Q (.int (if k then 1 else 0))
 | [.str z],Q=>∃ n,intText? z=some n/\z.length<=640/\Q (.int n)
 | _,_=>False
def bStr:BD
 | [.int i],Q=>i.natAbs.log2<1920/\Q (.str (toString i))
 | _,_=>False
end Dp
set_option maxHeartbeats 1000000
set_option maxHeartbeats 1000000
set_option maxHeartbeats 1000000
namespace Dp
open PySem L2
variable{K:Frag}{Jx:Hp->Prop}{f:Addr}{O O':List Addr}{H H':Hp}{X:Cx}{σ:St}{ss:SS}{a b c:Expr}{ta tb tc:TEd}{tA tB:TTd}{pos:Pos}
theorem Rps.one{d:D}{vs:List V}(h:Rps K f O H [d] vs):∃ v,vs=[v]/\Rp K f O H d v:=by
 obtain⟨v,r,e,h1,h2⟩:=h;cases (show r=[] from h2);exact⟨v,e,h1⟩
theorem Rps.two{d d':D}{vs:List V}(h:Rps K f O H [d,d'] vs):∃ v v',vs=[v,v']/\Rp K f O H d v/\Rp K f O H d' v':=by
 obtain⟨v,r,e,h1,h2⟩:=h;obtain⟨w,e2,h3⟩:=Rps.one h2;subst e2;exact⟨v,w,e,h1,h3⟩
theorem bLen.mono:∀{ds Q Q'},(∀ d,Q d->Q' d)->bLen ds Q->bLen ds Q':=by
 intro ds Q Q' h;unfold bLen;split <;> first|exact h _|exact fun q=>⟨q.1,h _ q.2⟩|exact id
theorem bAbs.mono:∀{ds Q Q'},(∀ d,Q d->Q' d)->bAbs ds Q->bAbs ds Q':=by
 intro ds Q Q' h;unfold bAbs;split <;> first|exact h _|exact id
theorem bAll.mono:∀{ds Q Q'},(∀ d,Q d->Q' d)->bAll ds Q->bAll ds Q':=by
 intro ds Q Q' h;unfold bAll;split <;> first|exact fun⟨bs,e,q⟩=>⟨bs,e,h _ q⟩|exact id
theorem bAny.mono:∀{ds Q Q'},(∀ d,Q d->Q' d)->bAny ds Q->bAny ds Q':=by
 intro ds Q Q' h;unfold bAny;split <;> first|exact fun⟨bs,e,q⟩=>⟨bs,e,h _ q⟩|exact id
theorem bInt.mono:∀{ds Q Q'},(∀ d,Q d->Q' d)->bInt ds Q->bInt ds Q':=by
 intro ds Q Q' h;unfold bInt;split <;> first|exact h _|exact fun⟨n,e,l,q⟩=>⟨n,e,l,h _ q⟩|exact id
theorem bStr.mono:∀{ds Q Q'},(∀ d,Q d->Q' d)->bStr ds Q->bStr ds Q':=by
 intro ds Q Q' h;unfold bStr;split <;> first|exact fun q=>⟨q.1,h _ q.2⟩|exact id
theorem ur:RB X (.builtin "len") bLen:=by
 refine⟨_,CallR.or2 (tD X.K) pd,fun f O σ ss H ds vs Q S r h=>?_⟩;unfold bLen at h;split at h
 ·obtain⟨v,rfl,p,xs,rfl,_,h1,h2⟩:=Rps.one r;refine .inl ⟨p,xs,rfl,.inl (SqL.of h1),?_⟩;rw [h2.len];exact h _ H (Ex.refl S.fl) rfl
 ·obtain⟨v,rfl,p,xs,rfl,h1,h2⟩:=Rps.one r;refine .inl ⟨p,xs,rfl,.inr h1,?_⟩;rw [h2.len];exact h _ H (Ex.refl S.fl) rfl
 ·obtain⟨v,rfl,e⟩:=Rps.one r;cases e;exact .inr ⟨_,rfl,h.1,h.2 _ H (Ex.refl S.fl) rfl⟩
 ·exact h.elim
theorem yt:RB X (.builtin "abs") bAbs:=by
 refine⟨_,vC,fun f O σ ss H ds vs Q S r h=>?_⟩;unfold bAbs at h;split at h
 ·obtain⟨v,rfl,e⟩:=Rps.one r;cases e;exact⟨_,rfl,h _ H (Ex.refl S.fl) rfl⟩
 ·exact h.elim
theorem yr(hc:X.calm=true):RB X (.builtin "all") bAll:=by
 refine⟨_,AO X.K hc,fun f O σ ss H ds vs Q S r h=>?_⟩;unfold bAll at h;split at h
 ·obtain⟨bs,rfl,h⟩:=h;obtain⟨v,rfl,p,xs,rfl,_,h1,h2⟩:=Rps.one r;cases h2.bls;exact⟨p,bs,rfl,SqL.of h1,h _ H (Ex.refl S.fl) rfl⟩
 ·exact h.elim
theorem yq(hc:X.calm=true):RB X (.builtin "any") bAny:=by
 refine⟨_,B4 X.K hc,fun f O σ ss H ds vs Q S r h=>?_⟩;unfold bAny at h;split at h
 ·obtain⟨bs,rfl,h⟩:=h;obtain⟨v,rfl,p,xs,rfl,_,h1,h2⟩:=Rps.one r;cases h2.bls;exact⟨p,bs,rfl,SqL.of h1,h _ H (Ex.refl S.fl) rfl⟩
 ·exact h.elim
theorem yp:RB X (.type "int") bInt:=by
 refine⟨_,CallR.or2 tT tU,fun f O σ ss H ds vs Q S r h=>?_⟩;unfold bInt at h;split at h
 ·obtain⟨v,rfl,e⟩:=Rps.one r;cases e;exact .inr (.inl ⟨_,rfl,h _ H (Ex.refl S.fl) rfl⟩)
 ·obtain⟨v,rfl,e⟩:=Rps.one r;cases e;exact .inr (.inr ⟨_,rfl,h _ H (Ex.refl S.fl) rfl⟩)
 ·obtain⟨v,rfl,e⟩:=Rps.one r;cases e;obtain⟨n,h1,h2,q⟩:=h;exact .inl ⟨_,n,rfl,h1,h2,q _ H (Ex.refl S.fl) rfl⟩
 ·exact h.elim
theorem yo:RB X (.type "str") bStr:=by
 refine⟨_,pb,fun f O σ ss H ds vs Q S r h=>?_⟩;unfold bStr at h;split at h
 ·obtain⟨v,rfl,e⟩:=Rps.one r;cases e;exact⟨_,rfl,h.1,h.2 _ H (Ex.refl S.fl) rfl⟩
 ·exact h.elim
structure BB where
 run:BD
 mono:∀{ds Q Q'},(∀ d,Q d->Q' d)->run ds Q->run ds Q'
inductive Ty where
 | int|bool|tuple|list|str
def Ty.nm:Ty->String
 | .int => "int" | .bool => "bool" | .tuple => "tuple" | .list => "list" | .str => "str"
def Cq:Ty->D->Option Bool
 | _,.fl=>none
 | _,.exn _ _ _=>none
 | _,.dct _ _=>none
 | _,.fn _=>none
 | .int,.int _=>some true | .int,.bl _=>some true | .bool,.bl _=>some true | .tuple,.tup _=>some true | .list,.lst _=>some true | .str,.str _=>some true
 | _,_=>some false
def tyTab:List (Str×Ty):=[("int",.int),("bool",.bool),("tuple",.tuple),("list",.list),("str",.str)]
def qy(x:Str):Option Ty:=tyTab.lookup x
def iV(y:Ty)(t:TEd):TEd:=⟨fun ss Q=>t.run ss fun d=>match Cq y d with|some b=>Q (.bl b)|none=>False,fun {ss Q Q'} h q=>t.mono (fun d q=>by
 revert q;split
 ·exact h _
 ·exact id) q⟩
theorem sG(B:Bl X.mg){x:Str}{y:Ty}(h:qy x=some y):X.mg x=none/\x ≠ "__name__" /\ (x == ("__debug__" : Str))=false/\bootBuiltins x=some (.type y.nm):=by
 have m:=ju h;unfold tyTab at m;rcases ai.mp m with e|m
 ·cases e;exact⟨B.int,by decide,by decide,vI⟩
 rcases ai.mp m with e|m
 ·cases e;exact⟨B.bool,by decide,by decide,ph⟩
 rcases ai.mp m with e|m
 ·cases e;exact⟨B.tuple,by decide,by decide,lU⟩
 rcases ai.mp m with e|m
 ·cases e;exact⟨B.list,by decide,by decide,kP⟩
 rcases ai.mp m with e|m
 ·cases e;exact⟨B.str,by decide,by decide,vH⟩
 cases m
theorem y9{y:Ty}{d:D}{v:V}{b:Bool}(h:Cq y d=some b)(r:Rp K f O H d v):∃ t,zz K H v t/\PySem.W.kitOne K t (.type y.nm)=some b:=by
 cases d;case non=>cases (show v=_ from r);cases y <;> cases h <;> exact⟨_,.inl .non,rfl⟩
 case bl=>cases (show v=_ from r);cases y <;> cases h <;> exact⟨_,.inl (.bl _),rfl⟩
 case int=>cases (show v=_ from r);cases y <;> cases h <;> exact⟨_,.inl (.int _),rfl⟩
 case str=>cases (show v=_ from r);cases y <;> cases h <;> exact⟨_,.inl (.str _),rfl⟩
 case tup =>
  obtain⟨a,xs,rfl,h1,h2⟩:=r;cases y <;> cases h <;> exact⟨_,.inr (.inl ⟨a,xs,rfl,h1,rfl⟩),rfl⟩
 case lst =>
  obtain⟨a,xs,rfl,_,h1,h2⟩:=r;cases y <;> cases h <;> exact⟨_,.inr (.inr ⟨a,xs,rfl,SqL.of h1,rfl⟩),rfl⟩
 case fl=>cases y <;> cases h
 case exn=>cases y <;> cases h
 case dct=>cases y <;> cases h
 case fn=>cases y <;> cases h
theorem iV.ok(B:Bl X.mg){x:Str}{y:Ty}{p p2:Pos}(hy:qy x=some y)(hg:Gl X "isinstance")(hx:Gl X x)(ha:PE X a (LE X.K Jx ta))(hs:∀ es,starEach (a::es) X.env=(false,eval a X.env)::starEach es X.env):PE X (.Call (.Name "isinstance" p) [a,.Name x p2] [] pos) (LE X.K Jx (iV y ta)):=by
 obtain⟨h1,h2,h3,h4⟩:=sG B hy;refine (jt (p:=p) (pos:=pos) (y8 X.K) hg B.isinstance jq (jg ha (jg (jM (v:=.ty y.nm) (pos:=p2) hx h1 h4 rfl h2 h3) pa_nil rfl) (hs _)) (by decide) (by decide) (hs _) rfl).weak fun σ H Q ⟨f,O,ss,S,q⟩=>⟨f,O,ss,S,ta.mono (fun d q v H1 e r=>?_) q⟩;revert q;split
 ·rename_i b eb;intro q;obtain⟨t,t1,t2⟩:=y9 eb r;exact⟨v,y.nm,t,b,rfl,t1,t2,q _ H1 e rfl⟩
 ·exact False.elim
def gR(i:Nat):TEd:=⟨fun ss Q=>match ss[i]? with|some (.val d)=>bLen [d] Q|some (.own l)=>Q (.int l.length)|_=>False,fun {ss Q Q'} h q=>by
 revert q;split
 ·exact bLen.mono h
 ·exact h _
 ·exact id⟩
theorem gR.ok{i:Nat}{p:Pos}(hg:Gl X "len")(hm:X.mg "len" = none)(ha:PE X a (lC i))(hs:starEach [a] X.env=[(false,eval a X.env)]):PE X (.Call (.Name "len" p) [a] [] pos) (LE X.K Jx (gR i)):=by
 obtain⟨r,h1,h2⟩:=ur (X:=X);refine (jt (p:=p) (pos:=pos) (CallR.or2 h1 (tD X.K)) hg hm my (jg ha pa_nil hs) (by decide) (by decide) hs rfl).weak fun σ H Q ⟨f,O,ss,S,q⟩=>?_;have q:(match ss[i]? with|some (.val d)=>bLen [d] (fun d=>∀ v H',Ex f H H'->Rp X.K f O H' d v->Q v H')|some (.own l)=>(∀ v H',Ex f H H'->Rp X.K f O H' (.int l.length) v->Q v H')|_=>False):=q;split at q
 ·rename_i d e;obtain⟨v,w1,w2⟩:=S.val i d e;exact⟨v,w1,.inl (h2 f O σ ss H [d] [v] Q S.tr ⟨v,[],rfl,w2,rfl⟩ q)⟩
 ·rename_i l e;obtain⟨p0,xs,w1,w2,w3,w4,w5⟩:=S.own i l e;refine⟨_,w1,.inr ⟨p0,xs,rfl,.inl (SqL.of w4),?_⟩⟩;rw [w5.len];exact q _ H (Ex.refl S.fl) rfl
 ·exact q.elim
structure SpB where
 n:Nat
 run:B8
 mono:∀{ds Q Q'},(∀ d,Q d->Q' d)->run ds Q->run ds Q'
def SpB.of(n:Nat){α:Type}(pre:α->List D->Prop)(post:α->D->Prop):SpB:=⟨n,fun ds Q=>∃ x,pre x ds/\∀ d,post x d->Q d,fun h ⟨x,p,q⟩=>⟨x,p,fun d r=>h _ (q d r)⟩⟩
def dU(s:SpB)(t:TAd):TEd:=⟨fun ss Q=>t.run ss fun ds=>ds.length=s.n/\s.run ds Q,fun h q=>t.mono (fun ds q=>⟨q.1,s.mono h q.2⟩) q⟩
theorem dU.ok{e:Expr}{s:SpB}{t:TAd}(h:PE X e (mC (mM X.K s.n s.run) [] E0 (LA X.K Jx t))):PE X e (LE X.K Jx (dU s t)):=h.weak fun σ H Q ⟨f,O,ss,S,q⟩ =>
 ⟨f,O,ss,S,t.mono (fun ds q vs H1 e1 r1=>by
  have S1:=S.ex e1;refine⟨by rw [aD,r1.len];exact q.1,f,O,ds,S1.fl,S1.fO,S1.al,S1.lO,by rw [aD];exact r1,?_⟩;exact s.mono (fun d q v H' e r=>q v H' (e1.trans e) r) q.2) q⟩
end Dp
namespace Dp
open PySem L2
variable{K:Frag}{Jx:Hp->Prop}{f:Addr}{O O':List Addr}{H H':Hp}{X:Cx}{σ:St}{ss:SS}{a b c:Expr}{ta tb tc:TEd}{tA tB:TTd}{pos:Pos}
mutual
theorem Rp.moved(e:∀ a∈O',a∈O\/H a=none)(k:Kp O H H')(hO:∀ b∈O,∃ xs,H b=some (.lst xs)):∀{d:D} {v:V},Rp K f O H d v->Rp K f O' H' d v
 | .non,_,h=>h
 | .bl _,_,h=>h
 | .int _,_,h=>h
 | .str _,_,h=>h
 | .fl,_,h=>h
 | .fn _,_,h=>h
 | .tup l,v,h=>by
  obtain⟨a,xs,e1,h1,h2⟩:=h;exact⟨a,xs,e1,h1.kp k hO,Rps.moved e k hO h2⟩
 | .lst l,v,h=>by
  obtain⟨a,xs,e1,n,h1,h2⟩:=h;refine⟨a,xs,e1,fun z=>?_,k a _ n h1,Rps.moved e k hO h2⟩;rcases e a z with q|q
  ·exact n q
  ·rw [h1] at q;cases q
 | .exn C x l,v,h=>by
  obtain⟨a,us,e1,h1,h2⟩:=h;exact⟨a,us,e1,h1.kp k hO,Rps.moved e k hO h2⟩
 | .dct ks l,v,h=>by
  obtain⟨a,us,e1,h1,h2,h3⟩:=h;exact⟨a,us,e1,k a _ (fun z=>by obtain⟨xs,q⟩:=hO a z;rw [q] at h1;cases h1) h1,h2,Rps.moved e k hO h3⟩
theorem Rps.moved(e:∀ a∈O',a∈O\/H a=none)(k:Kp O H H')(hO:∀ b∈O,∃ xs,H b=some (.lst xs)):∀{ds:List D} {vs:List V},Rps K f O H ds vs->Rps K f O' H' ds vs
 | [],_,h=>h
 | d::ds,_,h=>by
  obtain⟨v,r,e1,h1,h2⟩:=h;exact⟨v,r,e1,Rp.moved e k hO h1,Rps.moved e k hO h2⟩
end
structure ItD (K:Frag)(f:Addr)(O:List Addr)(J:It)(H1:Hp)(ds:List D):Prop where
 go:∀ H' i,Kp O H1 H'->i<ds.length->J.go i H'
 yld:∀ O' H' i x H'',(∀ a∈O',a∈O\/H1 a=none)->f∈O'->(∀ a∈O',∃ xs,H' a=some (.lst xs))->Kp O H1 H'->Fl H' f->i<ds.length->J.yld i H' x H''->∃ d,ds[i]? = some d/\Ex f H' H''/\Rp K f O' H'' d x
 stop:∀ H',Kp O H1 H'->J.stop ds.length H'
def LI(K:Frag)(Jx:Hp->Prop)(t:TAd):TI:=fun σ H R=>∃ f O ss,SlD K Jx f O σ H ss/\t.run ss fun ds=>∀ J H1,Ex f H H1->ItD K f O J H1 ds->R J H1
theorem _root_.L2.PI.weak{tg e:Expr}{t t':TI}(h:PI X tg e t)(w:∀ σ H Q,t' σ H Q->t σ H Q):PI X tg e t':=fun pins s σ H Q I q=>h pins s σ H Q I (w σ H Q q)
def mD(z:Str):List D:=z.cps.toList.map fun c=>.str ⟨#[c]⟩
theorem kI{z:Str}:(mD z).length=z.cps.size:=by simp [mD]
def itemsD:D->(List D->Prop)->Prop
 | .lst l,Q=>Q l
 | .tup l,Q=>Q l
 | .str z,Q=>Q (mD z)
 | _,_=>False
def itemsS:D->(List D->Prop)->Prop
 | .lst l,Q=>Q l
 | .tup l,Q=>Q l
 | _,_=>False
theorem itemsS.mono{d:D}{Q Q':List D->Prop}(h:∀ d,Q d->Q' d):itemsS d Q->itemsS d Q':=by
 cases d <;> first|exact h _|exact id
theorem itemsD.mono{d:D}{Q Q':List D->Prop}(h:∀ d,Q d->Q' d):itemsD d Q->itemsD d Q':=by
 cases d <;> first|exact h _|exact id
def eW(t:TEd):TAd:=⟨fun ss Q=>t.run ss fun d=>itemsD d Q,fun h q=>t.mono (fun d q=>itemsD.mono h q) q⟩
theorem eW.ok{tg:Expr}(h:PE X a (LE X.K Jx ta)):PI X tg a (LI X.K Jx (eW ta)):=(CS h).weak fun σ H R ⟨f,O,ss,S,q⟩=>⟨f,O,ss,S,ta.mono (fun d q v H1 e r=>by
 have S1:=S.ex e;cases d <;> first|exact False.elim q|skip
 ·rename_i z;cases (show v=_ from r);refine .inr ⟨z,rfl,q _ H1 e ⟨fun H' i k hi=>?_,fun O' H' i x H'' hO hf al k F hi y=>?_,fun H' k=>?_⟩⟩
  ·rw [kI] at hi;exact hi
  ·obtain⟨rfl,c,hc,rfl⟩:=y;refine⟨.str ⟨#[c]⟩,?_,Ex.refl F,rfl⟩;unfold mD;rw [aV,cr,hc];rfl
  ·exact kI
 ·rename_i l;obtain⟨p,xs,rfl,h1,h2⟩:=r;refine .inl ⟨p,rfl,.inr ⟨⟨xs,h1⟩,q _ H1 e ⟨fun H' i k hi=>?_,fun O' H' i x H'' hO hf al k F hi y=>?_,fun H' k=>?_⟩⟩⟩
  ·obtain⟨v,hv,_⟩:=h2.get (show l[i]? = some l[i] by simp [hi]);exact⟨xs,v,h1.kp k S1.al,hv⟩
  ·obtain⟨rfl,y⟩:=y;obtain⟨v,hv,r⟩:=h2.get (show l[i]? = some l[i] by simp [hi]);have:=y xs (h1.kp k S1.al);rw [hv] at this;cases this;exact⟨l[i],by simp [hi],Ex.refl F,r.moved hO k S1.al⟩
  ·exact⟨xs,h1.kp k S1.al,by rw [h2.len];exact aj _⟩
 ·rename_i l;obtain⟨p,xs,rfl,n,h1,h2⟩:=r;refine .inl ⟨p,rfl,.inl ⟨⟨xs,SqL.of h1⟩,q _ H1 e ⟨fun H' i k hi=>?_,fun O' H' i x H'' hO hf al k F hi y=>?_,fun H' k=>?_⟩⟩⟩
  ·obtain⟨v,hv,_⟩:=h2.get (show l[i]? = some l[i] by simp [hi]);exact⟨xs,v,SqL.of (k p _ n h1),hv⟩
  ·obtain⟨rfl,y⟩:=y;obtain⟨v,hv,r⟩:=h2.get (show l[i]? = some l[i] by simp [hi]);have:=y xs (SqL.of (k p _ n h1));rw [hv] at this;cases this;exact⟨l[i],by simp [hi],Ex.refl F,r.moved hO k S1.al⟩
  ·exact⟨xs,SqL.of (k p _ n h1),by rw [h2.len];exact aj _⟩) q⟩
def pI(lo:Int)(n:Nat):List D:=(List.range n).map fun i=>.int (lo+(i:Nat))
theorem j4{lo:Int}{n:Nat}:(pI lo n).length=n:=by simp [pI]
theorem pH{lo:Int}{n i:Nat}(h:i<n):(pI lo n)[i]? = some (.int (lo+(i:Nat))):=by simp [pI,h]
theorem pG{lo:Int}{n i:Nat}{d:D}(h:(pI lo n)[i]? = some d):i<n/\d = .int (lo+(i:Nat)):=by
 have:=(av.mp h).1;rw [j4] at this;rw [pH this] at h;exact⟨this,(Option.some.inj h).symm⟩
theorem sh{lo:Int}{n:Nat}{H1:Hp}:ItD K f O (zK lo n) H1 (pI lo n):=by
 refine⟨fun H' i k hi=>?_,fun O' H' i x H'' hO hf al k F hi y=>?_,fun H' k=>?_⟩
 ·rw [j4] at hi;exact hi
 ·obtain⟨rfl,rfl⟩:=y;rw [j4] at hi;exact⟨_,pH hi,Ex.refl F,rfl⟩
 ·rw [j4];exact aj _
def rngD:D->(List D->Prop)->Prop
 | .int j,Q => -(2^62)<=j/\j<2^62/\Q (pI 0 j.toNat)
 | _,_=>False
theorem rngD.mono{d:D}{Q Q':List D->Prop}(h:∀ d,Q d->Q' d):rngD d Q->rngD d Q':=by
 cases d <;> first|exact fun q=>⟨q.1,q.2.1,h _ q.2.2⟩|exact id
def rngD2:D->D->(List D->Prop)->Prop
 | .int i,.int j,Q=>(-(2^62)<=i/\i<2^62 /\ -(2^62)<=j/\j<2^62)/\Q (pI i (j-i).toNat)
 | _,_,_=>False
theorem rngD2.mono{d d':D}{Q Q':List D->Prop}(h:∀ d,Q d->Q' d):rngD2 d d' Q->rngD2 d d' Q':=by
 cases d <;> cases d' <;> first|exact fun q=>⟨q.1,h _ q.2⟩|exact id
def gS(t:TEd):TAd:=⟨fun ss Q=>t.run ss fun d=>rngD d Q,fun h q=>t.mono (fun d q=>rngD.mono h q) q⟩
def gT(t u:TEd):TAd:=⟨fun ss Q=>t.run ss fun d=>u.run ss fun d'=>rngD2 d d' Q,fun h q=>t.mono (fun d q=>u.mono (fun d' q=>rngD2.mono h q) q) q⟩
theorem gS.ok{tg:Expr}{p:Pos}(hg:Gl X "range")(hm:X.mg "range" = none)(ha:PE X a (LE X.K Jx ta))(hs:starEach [a] X.env=[(false,eval a X.env)]):PI X tg (.Call (.Name "range" p) [a] [] pos) (LI X.K Jx (gS ta)) :=
 (nW (p:=p) (pos:=pos) hg hm (jg ha pa_nil hs) hs).weak fun σ H R ⟨f,O,ss,S,q⟩=>⟨f,O,ss,S,ta.mono (fun d q v H1 e r=>by
  cases d <;> first|exact False.elim q|skip
  cases (show v=_ from r);exact⟨_,rfl,q.1,q.2.1,q.2.2 _ H1 e sh⟩) q⟩
theorem gT.ok{tg:Expr}{p:Pos}(hg:Gl X "range")(hm:X.mg "range" = none)(ha:PE X a (LE X.K Jx ta))(hb:PE X b (LE X.K Jx tb))(hs:starEach [a,b] X.env=[(false,eval a X.env),(false,eval b X.env)])(hs2:starEach [b] X.env=[(false,eval b X.env)]):PI X tg (.Call (.Name "range" p) [a,b] [] pos) (LI X.K Jx (gT ta tb)) :=
 (sV (p:=p) (pos:=pos) hg hm (jg ha (jg hb pa_nil hs2) (by rw [hs,hs2])) hs hs2).weak fun σ H R ⟨f,O,ss,S,q⟩=>⟨f,O,ss,S,ta.mono (fun d q v H1 e r=>⟨f,O,ss,S.ex e,tb.mono (fun d' q v' H2 e2 r'=>by
  cases d <;> cases d' <;> first|exact False.elim q|skip
  cases (show v=_ from r);cases (show v'=_ from r');exact⟨_,_,rfl,q.1,q.2 _ H2 (e.trans e2) sh⟩) q⟩) q⟩
def Sub(σ:St)(ss:SS)(σ':St)(ss':SS):Prop:=∀(i:Nat) (l:List D),ss'[i]? = some (SD.own l)->ss[i]? = some (SD.own l)/\σ'[i]? = σ[i]?
theorem Sub.refl:Sub σ ss σ ss:=fun _ _ h=>⟨h,rfl⟩
theorem Sub.trans{σ1 σ2:St}{s1 s2:SS}(h:Sub σ ss σ1 s1)(k:Sub σ1 s1 σ2 s2):Sub σ ss σ2 s2:=fun i l q=>by
 obtain⟨q1,e1⟩:=k i l q;obtain⟨q2,e2⟩:=h i l q1;exact⟨q2,e1.trans e2⟩
def Agr(T:List Nat)(σ σ':St):Prop:=σ'.length=σ.length/\∀ j,j ∉ T->σ'[j]? = σ[j]?
theorem Agr.refl{T:List Nat}:Agr T σ σ:=⟨rfl,fun _ _=>rfl⟩
theorem Agr.set{T:List Nat}{i:Nat}{v:Option V}(h:i∈T):Agr T σ (σ.set i v):=⟨aO,fun j n=>au (by rintro rfl;exact n h)⟩
theorem Agr.trans{T:List Nat}{σ1 σ2:St}(a:Agr T σ σ1)(b:Agr T σ1 σ2):Agr T σ σ2:=⟨b.1.trans a.1,fun j n=>(b.2 j n).trans (a.2 j n)⟩
def LG(K:Frag)(Jx:Hp->Prop)(t:TGd):TG:=fun v σ H Q=>∃ f O ss d,SlD K Jx f O σ H ss/\Rp K f O H d v/\t.run d ss fun ss'=>∀ σ' H',Ex f H H'->SlD K Jx f O σ' H' ss'->Sub σ ss σ' ss'->Agr t.tg σ σ'->Q σ' H'
theorem SlD.set(S:SlD K Jx f O σ H ss){i:Nat}{d:D}{v:V}(r:Rp K f O H d v):SlD K Jx f O (σ.set i (some v)) H (ss.set i (.val d)) where
 j:=S.j
 fl:=S.fl
 fO:=S.fO
 al:=S.al
 lO:=S.lO
 len:=by rw [aO,aO,S.len]
 val:=fun j d' h=>by
  by_cases z:i=j
  ·subst z;rw [ay] at h;rw [if_pos rfl] at h;split at h
   ·cases h;rename_i l;exact⟨v,by rw [ay,if_pos rfl,if_pos (by rw [← S.len];exact l)],r⟩
   ·cases h
  ·rw [au z] at h ⊢;exact S.val j d' h
 own:=fun j l h=>by
  by_cases z:i=j
  ·subst z;rw [ay] at h;rw [if_pos rfl] at h;split at h <;> cases h
  ·rw [au z] at h ⊢;exact S.own j l h
theorem Sub.set{i:Nat}{d:D}{v:Option V}:Sub σ ss (σ.set i v) (ss.set i (.val d)):=fun j l h=>by
 by_cases z:i=j
 ·subst z;rw [ay] at h;rw [if_pos rfl] at h;split at h <;> cases h
 ·rw [au z] at h ⊢;exact⟨h,rfl⟩
def gNm(i:Nat):TGd:=⟨[i],fun d ss Q=>Q (ss.set i (.val d)),fun h q=>h _ q⟩
theorem _root_.L2.PG.weak{e:Expr}{t t':TG}(h:PG X e t)(w:∀ v σ H Q,t' v σ H Q->t v σ H Q):PG X e t':=fun pins s σ H v u Q I r q=>h pins s σ H v u Q I r (w _ σ H Q q)
end Dp
namespace Dp
open PySem L2
variable{K:Frag}{Jx:Hp->Prop}{f:Addr}{O O':List Addr}{H H':Hp}{X:Cx}{σ:St}{ss:SS}{a b c:Expr}{ta tb tc:TEd}{tA tB:TTd}{pos:Pos}
theorem gNm.ok{i:Nat}{e:Expr}(h:PG X e (oh i)):PG X e (LG X.K Jx (gNm i)):=h.weak fun v σ H Q ⟨f,O,ss,d,S,r,q⟩=>q _ H (Ex.refl S.fl) (S.set r) Sub.set (Agr.set ar)
def mZ(ss:SS):List Nat->List D->SS
 | i::is,d::ds=>mZ (ss.set i (.val d)) is ds
 | _,_=>ss
def gsAll:List Nat->xT
 | []=>AD
 | i::is=>xP (oh i) (gsAll is)
def kJ(σ:St):List Nat->List V->St
 | i::is,v::vs=>kJ (σ.set i (some v)) is vs
 | _,_=>σ
theorem gsAll.run{Q:St->Hp->Prop}:∀{is:List Nat} {vs:List V} {σ:St},vs.length=is.length->Q (kJ σ is vs) H->gsAll is vs σ H Q
 | [],[],σ,_,q=>⟨rfl,q⟩
 | [],_::_,_,l,_=>by cases l
 | _::_,[],_,l,_=>by cases l
 | i::is,v::vs,σ,l,q=>⟨v,vs,rfl,gsAll.run (by simpa using l) q⟩
theorem SlD.all:∀{is:List Nat} {vs:List V} {ds:List D} {σ:St} {ss:SS},SlD K Jx f O σ H ss->Rps K f O H ds vs->SlD K Jx f O (kJ σ is vs) H (mZ ss is ds)
 | [],_,_,_,_,S,_=>S
 | i::is,[],[],_,_,S,_=>S
 | i::is,vs,[],_,_,S,r=>by cases (show vs=[] from r);exact S
 | i::is,vs,d::ds,σ,ss,S,r=>by
  obtain⟨v,r',e,h1,h2⟩:=r;subst e;show SlD K Jx f O (kJ (σ.set i (some v)) is r') H (mZ (ss.set i (.val d)) is ds);exact SlD.all (S.set h1) h2
theorem Sub.all:∀{is:List Nat} {vs:List V} {ds:List D} {σ:St} {ss:SS},vs.length=ds.length->Sub σ ss (kJ σ is vs) (mZ ss is ds)
 | [],_,_,_,_,_=>Sub.refl
 | i::is,[],[],_,_,_=>Sub.refl
 | i::is,_::_,[],_,_,l=>by cases l
 | i::is,[],_::_,_,_,l=>by cases l
 | i::is,v::vs,d::ds,σ,ss,l=>Sub.trans Sub.set (Sub.all (by simpa using l))
theorem Agr.all:∀{is T:List Nat} {vs:List V} {σ:St},(∀ i∈is,i∈T)->Agr T σ (kJ σ is vs)
 | [],_,_,_,_=>Agr.refl
 | _::_,_,[],_,_=>Agr.refl
 | i::is,T,v::vs,σ,h=>Agr.trans (Agr.set (h i ar)) (Agr.all fun j hj=>h j (aq _ hj))
def gTp(is:List Nat):TGd:=⟨is,fun d ss Q=>match d with | .tup l=>l.length=is.length/\Q (mZ ss is l)|_=>False,fun {d ss Q Q'} h q=>by
 revert q;cases d <;> first|exact id|exact fun q=>⟨q.1,h _ q.2⟩⟩
theorem gTp.ok{is:List Nat}{e:Expr}(h:PG X e (AB X.K is.length (gsAll is))):PG X e (LG X.K Jx (gTp is)):=h.weak fun v σ H Q ⟨f,O,ss,d,S,r,q⟩=>by
 cases d <;> first|exact False.elim q|skip
 rename_i l;obtain⟨p,xs,rfl,h1,h2⟩:=r;exact⟨p,xs,rfl,h1,h2.len.trans q.1,gsAll.run (h2.len.trans q.1) (q.2 _ H (Ex.refl S.fl) (S.all h2) (Sub.all h2.len) (Agr.all fun _ h=>h))⟩
def qk(l:List D):List D:=(List.range l.length).map fun i=>.tup [.int ((i:Nat):Int),l.getD i .non]
theorem jT{l:List D}:(qk l).length=l.length:=by simp [qk]
theorem oj{l:List D}{i:Nat}(h:i<l.length):(qk l)[i]? = some (.tup [.int ((i:Nat):Int),l.getD i .non]):=by simp [qk,h]
def gU(t:TEd):TAd:=⟨fun ss Q=>t.run ss fun d=>itemsS d fun l=>Q (qk l),fun h q=>t.mono (fun d q=>itemsS.mono (fun l q=>h _ q) q) q⟩
def gV(t:TEd):TAd:=⟨fun ss Q=>t.run ss fun d=>itemsS d fun l=>Q l.reverse,fun h q=>t.mono (fun d q=>itemsS.mono (fun l q=>h _ q) q) q⟩
def nk(hide:List Nat)(ss:SS):SS:=hide.foldl (fun s i=>s.set i .no) ss
theorem SlD.blank(S:SlD K Jx f O σ H ss){i:Nat}{o:Option V}:SlD K Jx f O (σ.set i o) H (ss.set i .no) where
 j:=S.j
 fl:=S.fl
 fO:=S.fO
 al:=S.al
 lO:=S.lO
 len:=by rw [aO,aO,S.len]
 val:=fun j d' h=>by
  by_cases z:i=j
  ·subst z;rw [ay] at h;rw [if_pos rfl] at h;split at h <;> cases h
  ·rw [au z] at h ⊢;exact S.val j d' h
 own:=fun j l h=>by
  by_cases z:i=j
  ·subst z;rw [ay] at h;rw [if_pos rfl] at h;split at h <;> cases h
  ·rw [au z] at h ⊢;exact S.own j l h
theorem SlD.hide:∀{hide:List Nat} {σ:St} {ss:SS},SlD K Jx f O σ H ss->SlD K Jx f O (mI hide σ) H (nk hide ss)
 | [],_,_,S=>S
 | i::r,σ,ss,S=>SlD.hide (hide:=r) (S.blank (i:=i) (o:=none))
theorem qh:∀{hide:List Nat} {ss:SS} {i:Nat},(i∈hide\/ss[i]? = some SD.no\/ss[i]? = none)->(nk hide ss)[i]? = some SD.no\/(nk hide ss)[i]? = none
 | [],ss,i,h=>by
  rcases h with h|h
  ·cases h
  ·exact h
 | j::r,ss,i,h=>by
  refine qh (hide:=r) (ss:=ss.set j .no) ?_;by_cases z:j=i
  ·subst z;right;rw [ay,if_pos rfl];split
   ·exact .inl rfl
   ·exact .inr rfl
  ·rw [au z];rcases h with h|h
   ·rcases ai.mp h with q|q
    ·exact absurd q.symm z
    ·exact .inl q
   ·exact .inr h
theorem SlD.agr{T:List Nat}{σ':St}(S:SlD K Jx f O σ H ss)(h:Agr T σ σ')(hT:∀ i∈T,ss[i]? = some SD.no\/ss[i]? = none):SlD K Jx f O σ' H ss where
 j:=S.j
 fl:=S.fl
 fO:=S.fO
 al:=S.al
 lO:=S.lO
 len:=S.len.trans h.1.symm
 val:=fun j d q=>by
  rw [h.2 j fun z=>?_]
  ·exact S.val j d q
  ·rcases hT j z with w|w <;> rw [w] at q <;> cases q
 own:=fun j d q=>by
  rw [h.2 j fun z=>?_]
  ·exact S.own j d q
  ·rcases hT j z with w|w <;> rw [w] at q <;> cases q
def iB:TTd:=⟨fun _ Q=>Q true,fun h q=>h _ q⟩
def compD(ds:List D)(s0:SS)(g:TGd)(c:TTd)(e:TEd)(Q:D->Prop):Prop:=ds.length<=sizeLine/\∃ I:Nat->List D->Prop,I 0 [] /\
 (∀ i d ys,ds[i]? = some d->ys.length<=i->I i ys->g.run d s0 fun s1=>c.run s1 fun k=>if k=true then e.run s1 fun y=>I (i+1) (ys++[y]) else I (i+1) ys)/\∀ ys,ys.length<=ds.length->I ds.length ys->Q (.lst ys)
theorem compD.mono{ds:List D}{s0:SS}{g:TGd}{c:TTd}{e:TEd}{Q Q':D->Prop}(h:∀ d,Q d->Q' d):compD ds s0 g c e Q->compD ds s0 g c e Q':=fun⟨l,I,q0,q1,q2⟩=>⟨l,I,q0,q1,fun ys l i=>h _ (q2 ys l i)⟩
def eN(it:TAd)(hide:List Nat)(g:TGd)(c:TTd)(e:TEd):TEd:=⟨fun ss Q=>it.run ss fun ds=>compD ds (nk hide ss) g c e Q,fun h q=>it.mono (fun ds q=>compD.mono h q) q⟩
theorem compD.ok{J:It}{ds:List D}{hide:List Nat}{g:TGd}{c:TTd}{e:TEd}{Q:VK}{H1:Hp}(S:SlD K Jx f O σ H1 ss)(hg:∀ i∈g.tg,i∈hide)(D0:ItD K f O J H1 ds)(h:compD ds (nk hide ss) g c e fun d=>∀ v H',Ex f H1 H'->Rp K f O H' d v->Q v H') :
  vN J (LG K Jx g) (LT K Jx c) (LE K Jx e) (mI hide σ) Q H1:=by
 obtain⟨hl,I,q0,q1,q2⟩:=h;refine⟨fun k m τ ys H=>∃ yd,SlD K Jx f O τ H (nk hide ss)/\Rps K f O H yd ys/\yd.length<=k/\I k yd/\m=ds.length-k/\k<=ds.length/\Ex f H1 H,⟨_,[],S.hide,rfl,aj _,q0,rfl,bq _,Ex.refl S.fl⟩,?_⟩;rintro k m τ ys H ⟨yd,S1,r1,l1,i1,rfl,k1,e1⟩;have kp:=e1.kp S.fO;rcases bR k ds.length with hk|hk
 ·refine .inr ⟨D0.go H k kp hk,by rw [r1.len];(first|lia|omega),fun x H' y=>?_⟩;obtain⟨d,ed,e2,rd⟩:=D0.yld O H k x H' (fun a z=>.inl z) S.fO S1.al kp S1.fl hk y;have S2:=S1.ex e2;refine⟨f,O,_,d,S2,rd,g.mono (fun s1 q τ2 H2 e3 S3 _ ag=>?_) (q1 k d yd ed l1 i1)⟩;have S3':SlD K Jx f O τ2 H2 (nk hide ss):=(S2.ex e3).agr ag fun i hi=>qh (.inl (hg i hi));refine⟨f,O,s1,S3,c.mono (fun b q H3 e4=>?_) q⟩;cases b with
  | true =>
   refine⟨f,O,s1,S3.ex e4,e.mono (fun dy q v H4 e5 rv=>?_) q⟩;have e14:=e2.trans (e3.trans (e4.trans e5));exact⟨ds.length-(k+1),by first|lia|omega,yd++[dy],(S3'.ex e4).ex e5,(S1.ups e14 r1).append ⟨v,[],rfl,rv,rfl⟩,by rw [aF];simp;(first|lia|omega),q,rfl,hk,e1.trans e14⟩
  | false =>
   have e14:=e2.trans (e3.trans e4);exact⟨ds.length-(k+1),by first|lia|omega,yd,S3'.ex e4,S1.ups e14 r1,by first|lia|omega,q,rfl,hk,e1.trans e14⟩
 ·have ek:k=ds.length:=by first|lia|omega
  subst ek;exact .inl ⟨D0.stop H kp,fun p hp=>q2 yd l1 i1 _ _ (e1.trans (S1.new hp _)) (S1.lst hp r1)⟩
theorem eN.ok{scope:Scope}{hide:List Nat}{it:TAd}{g:TGd}{c:TTd}{e:TEd}{tg iter elt:Expr}{ifs:List Expr}(hc:X.calm=true)(Sc:CompS X.N X.env.scope scope hide)(hi:PI X tg iter (LI X.K Jx it))
  (hg:∀ s2 H2 fp pins C,PG (kS X scope s2 H2 fp pins C) tg (LG X.K Jx g)) (ht:∀ s2 H2 fp pins C,PTs (kS X scope s2 H2 fp pins C) ifs (LT X.K Jx c)) (he:∀ s2 H2 fp pins C,PE (kS X scope s2 H2 fp pins C) elt (LE X.K Jx e))
  (hs:∀ x,foldedSetIterable iter X.env x=pure x) (hh:∀ i∈g.tg,i∈hide):PE X (.ListComp elt [⟨tg,iter,ifs,0⟩] scope pos) (LE X.K Jx (eN it hide g c e)) :=
 (rR (pos:=pos) hc Sc hi hg ht he hs).weak fun σ H Q ⟨f,O,ss,S,q⟩=>⟨f,O,ss,S,it.mono (fun ds q J H1 e1 D0=>compD.ok (S.ex e1) hh D0 (compD.mono (fun d q v H' e r=>q v H' (e1.trans e) r) q)) q⟩
end Dp
namespace Dp
open PySem L2
variable{K:Frag}{Jx:Hp->Prop}{f:Addr}{O O':List Addr}{H H':Hp}{X:Cx}{σ:St}{ss:SS}{a b:Expr}{ta tb tc:TEd}{tA tB:TTd}{pos:Pos}
theorem gU.ok{es:List Expr}{kk:Nat}{ps p:Pos}(hg:Gl X "enumerate")(hm:X.mg "enumerate" = none)(ha:PE X a (LE X.K Jx ta))(hs:starEach [a] X.env=[(false,eval a X.env)]):PI X (.Tuple es kk ps) (.Call (.Name "enumerate" p) [a] [] pos) (LI X.K Jx (gU ta)) :=
 (wb (p:=p) (pos:=pos) X.K hg hm (jg ha pa_nil hs) rfl hs).weak fun σ H R ⟨f,O,ss,S,q⟩=>⟨f,O,ss,S,ta.mono (fun d q v H1 e r=>by
  have S1:=S.ex e;cases d <;> first|exact False.elim q|skip
  ·rename_i l;obtain⟨p,xs,rfl,h1,h2⟩:=r;refine⟨p,rfl,.inr ⟨⟨xs,h1⟩,q _ H1 e ⟨fun H' i k hi=>?_,fun O' H' i x H'' hO hf al k F hi y=>?_,fun H' k=>?_⟩⟩⟩
   ·rw [jT] at hi;obtain⟨v,hv,_⟩:=h2.get (show l[i]? = some l[i] by simp [hi]);exact⟨xs,v,h1.kp k S1.al,hv⟩
   ·rw [jT] at hi;obtain⟨p',w,rfl,hp,rfl,y⟩:=y;obtain⟨v,hv,r⟩:=h2.get (show l[i]? = some l[i] by simp [hi]);have:=y xs (h1.kp k S1.al);rw [hv] at this;cases this;refine⟨_,oj hi,Ex.new F hp _,p',_,rfl,SqT.of ji,.int i,_,rfl,rfl,_,[],rfl,?_,rfl⟩;rw [bT,aw hi];exact (r.moved hO k S1.al).kp ((Ex.new F hp _).kp hf) al
   ·rw [jT];exact⟨xs,h1.kp k S1.al,by rw [h2.len];exact aj _⟩
  ·rename_i l;obtain⟨p,xs,rfl,n,h1,h2⟩:=r;refine⟨p,rfl,.inl ⟨⟨xs,SqL.of h1⟩,q _ H1 e ⟨fun H' i k hi=>?_,fun O' H' i x H'' hO hf al k F hi y=>?_,fun H' k=>?_⟩⟩⟩
   ·rw [jT] at hi;obtain⟨v,hv,_⟩:=h2.get (show l[i]? = some l[i] by simp [hi]);exact⟨xs,v,SqL.of (k p _ n h1),hv⟩
   ·rw [jT] at hi;obtain⟨p',w,rfl,hp,rfl,y⟩:=y;obtain⟨v,hv,r⟩:=h2.get (show l[i]? = some l[i] by simp [hi]);have:=y xs (SqL.of (k p _ n h1));rw [hv] at this;cases this;refine⟨_,oj hi,Ex.new F hp _,p',_,rfl,SqT.of ji,.int i,_,rfl,rfl,_,[],rfl,?_,rfl⟩;rw [bT,aw hi];exact (r.moved hO k S1.al).kp ((Ex.new F hp _).kp hf) al
   ·rw [jT];exact⟨xs,SqL.of (k p _ n h1),by rw [h2.len];exact aj _⟩) q⟩
def Ax(K:Frag)(ta:TA):TI:=fun σ H R=>ta σ H fun vs H1=>∃ a xs,vs=[.ref a] /\
 ((SqT K H1 a xs/\R ⟨fun i H=>i<xs.length/\∃ ys x,SqT K H a ys/\ys.length=xs.length/\ys.reverse[i]? = some x,fun i H x H'=>H'=H/\∀ xs,SqT K H a xs->xs.reverse[i]? = some x,fun i H=>i=xs.length⟩ H1) \/
   (SqL K H1 a xs/\R ⟨fun i H=>i<xs.length/\∃ ys x,SqL K H a ys/\ys.length=xs.length/\ys.reverse[i]? = some x,fun i H x H'=>H'=H/\∀ xs,SqL K H a xs->xs.reverse[i]? = some x,fun i H=>i=xs.length⟩ H1))
theorem wa{tg:Expr}{a:Expr}{ta:TA}{p pos:Pos}(hg:Gl X "reversed")(hm:X.mg "reversed" = none)(ha:PA X [a] ta)(hs:starEach [a] X.env=[(false,eval a X.env)]):PI X tg (.Call (.Name "reversed" p) [a] [] pos) (Ax X.K ta):=by
 intro pins s σ H R I h;refine PyProof.Rows.Call_ (kA I hg hm PyProof.Rows.boot_reversed (PyProof.Rows.callWith_type1 (jv (ha pos pins s σ H _ I h) fun us s1 ⟨vs,H1,I1,r1,q1⟩=>?_) hs rfl));obtain⟨l,xs,e,q1⟩:=q1;subst e;obtain⟨u,rfl,ru⟩:=Vals.one r1;cases ru;rcases q1 with⟨hq,q1⟩|⟨hq,q1⟩
 ·obtain⟨its,rv,pl,hz⟩:=I1.tuple hq;have hlen:=rv.length;have hn63:=j2;refine RV.vA (show s1.heap.IsTuple l its.toArray from pl) (by rw [af];(first|lia|omega)) fun tk=>?_;have st:RV.Is (s1.heap.push { cls:=.type "reversed",data:=.fields #[.ref l,rawInt ((its.toArray.size:Int)-1)] }) s1.heap.objs.size l ((xs.length:Int)-1-((0:Nat):Int)):=⟨_,Heap.get?_push_size _ rfl,rfl,by
   rw [af,← hlen,show (xs.length:Int)-1-((0:Nat):Int)=(xs.length:Int)-1 by first|lia|omega]⟩
  refine RV.n8 st ?_;refine⟨_,[s1.heap.objs.size],_,_,H1,rfl,I1.kept (t':=tk) fun b o e=>Heap.get?_push_of_some _ e,ue xs.length l _,st,fun b hb=>?_,q1⟩;rw [am.mp hb];exact I1.fpOk (aj _) (I1.hok.fresh (aj _))
 ·obtain⟨its,rv,pl,hz⟩:=I1.list hq;have hlen:=rv.length;refine call_reversed_list pl.isList ?_;have st:(s1.heap.push (revObj l ((its.toArray.size:Int)-1))).IsRevIter s1.heap.objs.size l ((xs.length:Int)-1-((0:Nat):Int)):=⟨_,Heap.get?_push_size _ rfl,rfl,by
   show Data.fields #[.ref l,rawInt ((its.toArray.size:Int)-1)]=_;rw [af,← hlen,show (xs.length:Int)-1-((0:Nat):Int)=(xs.length:Int)-1 by first|lia|omega]⟩
  refine wpAny_pyIter_revIter st ?_;refine⟨_,[s1.heap.objs.size],_,_,H1,rfl,I1.kept (t':=s1.toks) fun b o e=>Heap.get?_push_of_some _ e,sH xs.length l _,st,fun b hb=>?_,q1⟩;rw [am.mp hb];exact I1.fpOk (aj _) (I1.hok.fresh (aj _))
theorem gV.ok{tg:Expr}{p:Pos}(hg:Gl X "reversed")(hm:X.mg "reversed" = none)(ha:PE X a (LE X.K Jx ta))(hs:starEach [a] X.env=[(false,eval a X.env)]):PI X tg (.Call (.Name "reversed" p) [a] [] pos) (LI X.K Jx (gV ta)) :=
 (wa (p:=p) (pos:=pos) hg hm (jg ha pa_nil hs) hs).weak fun σ H R ⟨f,O,ss,S,q⟩=>⟨f,O,ss,S,ta.mono (fun d q v H1 e r=>by
  have S1:=S.ex e;cases d <;> first|exact False.elim q|skip
  ·rename_i l;obtain⟨p,xs,rfl,h1,h2⟩:=r;refine⟨p,xs,rfl,.inl ⟨h1,q _ H1 e ⟨fun H' i k hi=>?_,fun O' H' i x H'' hO hf al k F hi y=>?_,fun H' k=>?_⟩⟩⟩
   ·obtain⟨v,hv,_⟩:=h2.reverse.get (show l.reverse[i]? = some l.reverse[i] from aw hi);rw [bd] at hi;exact⟨by rw [h2.len];exact hi,xs,v,h1.kp k S1.al,rfl,hv⟩
   ·obtain⟨rfl,y⟩:=y;obtain⟨v,hv,r⟩:=h2.reverse.get (show l.reverse[i]? = some l.reverse[i] from aw hi);have:=y xs (h1.kp k S1.al);rw [hv] at this;cases this;exact⟨l.reverse[i],aw hi,Ex.refl F,r.moved hO k S1.al⟩
   ·rw [bd,h2.len]
  ·rename_i l;obtain⟨p,xs,rfl,n,h1,h2⟩:=r;refine⟨p,xs,rfl,.inr ⟨SqL.of h1,q _ H1 e ⟨fun H' i k hi=>?_,fun O' H' i x H'' hO hf al k F hi y=>?_,fun H' k=>?_⟩⟩⟩
   ·obtain⟨v,hv,_⟩:=h2.reverse.get (show l.reverse[i]? = some l.reverse[i] from aw hi);rw [bd] at hi;exact⟨by rw [h2.len];exact hi,xs,v,SqL.of (k p _ n h1),rfl,hv⟩
   ·obtain⟨rfl,y⟩:=y;obtain⟨v,hv,r⟩:=h2.reverse.get (show l.reverse[i]? = some l.reverse[i] from aw hi);have:=y xs (SqL.of (k p _ n h1));rw [hv] at this;cases this;exact⟨l.reverse[i],aw hi,Ex.refl F,r.moved hO k S1.al⟩
   ·rw [bd,h2.len]) q⟩
structure Cs where
 f:Addr
 O:List Addr
 H:Hp
 S:List Addr
structure Kpc (c:Cs)(H:Hp):Prop where
 kp:∀ b o,c.H b=some o->b≠c.f->(b∈c.O\/b ∉ c.S)->H b=some o
 key:∀ l r,c.H c.f=some (.lst (.ref l::r))->∃ r',H c.f=some (.lst (.ref l::r'))
structure StR (K:Frag)(Jx:Hp->Prop)(c:Cs)(O:List Addr)(σ:St)(H:Hp)(ss:SS):Prop where
 sl:SlD K Jx c.f O σ H ss
 sub:∀ a∈c.O,a∈O
 kp:Kpc c H
 new:∀ a∈O,a∈c.S\/c.H a=none
 own:∀(i:Nat) (l:List D) (a:Addr),ss[i]? = some (SD.own l)->σ[i]? = some (some (V.ref a))->(c.H a=none\/a∈c.S)/\a ∉ c.O/\∀(j:Nat) (l':List D),ss[j]? = some (SD.own l')->σ[j]? = some (some (V.ref a))->j=i
 jk:∀ H',Fl H' c.f->Kpc c H'->Jx H'
variable{c:Cs}
theorem Kpc.ex(k:Kpc c H)(e:Ex c.f H H'):Kpc c H':=⟨fun b o h n z=>e.sm.app b o n (k.kp b o h n z),fun l r h=>by
 obtain⟨r',h1⟩:=k.key l r h;exact e.sm.key l r' h1⟩
theorem StR.ex(R:StR K Jx c O σ H ss)(e:Ex c.f H H'):StR K Jx c O σ H' ss:=⟨R.sl.ex e,R.sub,R.kp.ex e,R.new,R.own,R.jk⟩
theorem StR.to{σ':St}{ss':SS}(R:StR K Jx c O σ H ss)(S:SlD K Jx c.f O σ' H ss')(h:Sub σ ss σ' ss'):StR K Jx c O σ' H ss':=⟨S,R.sub,R.kp,R.new,fun i l a q e=>by
 obtain⟨q1,e1⟩:=h i l q;obtain⟨w1,w2,w3⟩:=R.own i l a q1 (e1.symm.trans e);refine⟨w1,w2,fun j l' q' e'=>?_⟩;obtain⟨q2,e2⟩:=h j l' q';exact w3 j l' q2 (e2.symm.trans e'),R.jk⟩
def frz1(i:Nat)(ss:SS):SS:=match ss[i]? with|some (.own l)=>ss.set i (.val (.lst l))|_=>ss
def frz(fz:List Nat)(ss:SS):SS:=fz.foldl (fun s i=>frz1 i s) ss
theorem StR.frz1(R:StR K Jx c O σ H ss){i:Nat}:∃ O',StR K Jx c O' σ H (frz1 i ss):=by
 unfold Dp.frz1;split
 ·rename_i l e;obtain⟨a,xs,h1,h2,h3,h4,h5⟩:=R.sl.own i l e;obtain⟨w1,w2,w3⟩:=R.own i l a e h1;have hs:∀ b∈O.filter (fun b=>decide (b≠a)),b∈O:=fun b hb=>(bh.mp hb).1;have hl:i<ss.length:=(av.mp e).1;have hlv:(σ.set i (some (V.ref a)))=σ:=by
   apply dI;intro j;by_cases z:i=j
   ·subst z;rw [ay,if_pos rfl,if_pos (by rw [← R.sl.len];exact hl),h1]
   ·rw [au z]
  refine⟨O.filter (fun b=>decide (b≠a)),⟨R.sl.fl,?_,fun b hb=>R.sl.al b (hs b hb),fun l r q z=>R.sl.lO l r q (hs _ z),by rw [aO];exact R.sl.len,fun j d q=>?_,fun j l' q=>?_,R.sl.j⟩,fun b hb=>?_,R.kp,fun b hb=>R.new b (hs b hb),fun j l' b q e'=>?_,R.jk⟩
  ·exact bh.mpr ⟨R.sl.fO,by simpa using Ne.symm h3⟩
  ·by_cases z:i=j
   ·subst z;rw [ay,if_pos rfl,if_pos hl] at q;cases q;exact⟨_,h1,a,xs,rfl,fun z=>by simpa using (bh.mp z).2,h4,h5.less hs⟩
   ·rw [au z] at q;obtain⟨v,q1,q2⟩:=R.sl.val j d q;exact⟨v,q1,q2.less hs⟩
  ·by_cases z:i=j
   ·subst z;rw [ay,if_pos rfl,if_pos hl] at q;cases q
   ·rw [au z] at q;obtain⟨b,ys,q1,q2,q3,q4,q5⟩:=R.sl.own j l' q;refine⟨b,ys,q1,bh.mpr ⟨q2,?_⟩,q3,q4,q5.less hs⟩;have:b≠a:=by
     rintro rfl;exact z (w3 j l' q q1).symm
    simpa using this
  ·have:b≠a:=by
    rintro rfl;exact w2 hb
   exact bh.mpr ⟨R.sub b hb,by simpa using this⟩
  ·by_cases z:i=j
   ·subst z;rw [ay,if_pos rfl,if_pos hl] at q;cases q
   ·rw [au z] at q;obtain⟨p1,p2,p3⟩:=R.own j l' b q e';refine⟨p1,p2,fun k l2 q2 e2=>?_⟩;by_cases z2:i=k
    ·subst z2;rw [ay,if_pos rfl,if_pos hl] at q2;cases q2
    ·rw [au z2] at q2;exact p3 k l2 q2 e2
 ·exact⟨O,R⟩
theorem StR.frz:∀{fz:List Nat} {ss:SS} {O:List Addr},StR K Jx c O σ H ss->∃ O',StR K Jx c O' σ H (Dp.frz fz ss)
 | [],_,O,R=>⟨O,R⟩
 | i::fz,ss,O,R=>by
  obtain⟨O1,R1⟩:=R.frz1 (i:=i);exact StR.frz (fz:=fz) R1
structure Rt (K:Frag)(c:Cs)(H:Hp)(d:D)(v:V):Prop where
 fl:Fl H c.f
 kp:Kpc c H
 rp:Rp K c.f c.O H d v
theorem StR.rt(R:StR K Jx c O σ H ss){d:D}{v:V}(r:Rp K c.f O H d v):Rt K c H d v:=⟨R.sl.fl,R.kp,r.less R.sub⟩
def Cs.here(c:Cs)(H:Hp)(O:List Addr):Cs:=⟨c.f,c.O,H,O⟩
theorem Kpc.back{O1:List Addr}{H1:Hp}(R:StR K Jx c O1 σ H1 ss)(k:Kpc (c.here H1 O1) H):Kpc c H where
 kp:=fun b o h n z=>by
  refine k.kp b o (R.kp.kp b o h n z) n ?_;rcases z with z|z
  ·exact .inl z
  ·refine .inr fun y=>?_;rcases R.new b y with w|w
   ·exact z w
   ·rw [w] at h;cases h
 key:=fun l r h=>by
  obtain⟨r',h1⟩:=R.kp.key l r h;exact k.key l r' h1
theorem StR.here(R:StR K Jx c O σ H ss):StR K Jx (c.here H O) O σ H ss:=⟨R.sl,R.sub,⟨fun b o h _ _=>h,fun l r h=>⟨r,h⟩⟩,fun a h=>.inl h,fun i l a q e=>by
 obtain⟨a',xs,h1,h2,_⟩:=R.sl.own i l q;rw [h1] at e;cases e;exact⟨.inr h2,(R.own i l a q h1).2⟩,fun H' f k=>R.jk H' f (Kpc.back R k)⟩
theorem StR.back{O1:List Addr}{H1:Hp}{σ1:St}{s1:SS}(R:StR K Jx c O1 σ1 H1 s1)(k:StR K Jx (c.here H1 O1) O σ H ss):StR K Jx c O σ H ss:=by
 have low:∀ a,a ∉ c.O->(a∈O1\/H1 a=none)->a∈c.S\/c.H a=none:=fun a n z=>by
  rcases z with z|z
  ·exact R.new a z
  ·cases h:c.H a with
   | none=>exact .inr rfl
   | some o =>
    left;by_cases y:a∈c.S
    ·exact y
    ·exfalso;by_cases w:a=c.f
     ·subst w;obtain⟨xs,q⟩:=R.sl.fl.lst;rw [q] at z;cases z
     ·rw [R.kp.kp a o h w (.inr y)] at z;cases z
 refine⟨k.sl,k.sub,Kpc.back R k.kp,fun a h=>?_,fun i l a q e=>?_,R.jk⟩
 ·by_cases z:a∈c.O
  ·rcases R.new a (R.sub a z) with w|w
   ·exact .inl w
   ·exact .inr w
  ·exact low a z (k.new a h)
 ·obtain⟨w1,w2,w3⟩:=k.own i l a q e;exact⟨(low a w2 w1.symm).symm,w2,w3⟩
theorem Rt.back{O1:List Addr}{H1:Hp}{σ1:St}{s1:SS}(R:StR K Jx c O1 σ1 H1 s1){d:D}{v:V}(k:Rt K (c.here H1 O1) H d v):Rt K c H d v:=⟨k.fl,Kpc.back R k.kp,k.rp⟩
structure EndsD where
 nx:SS->Prop
 rt:D->Prop
 bk:SS->Prop
 ct:SS->Prop
structure EndsD.Le (E E':EndsD):Prop where
 nx:∀ s,E.nx s->E'.nx s
 rt:∀ d,E.rt d->E'.rt d
 bk:∀ s,E.bk s->E'.bk s
 ct:∀ s,E.ct s->E'.ct s
structure TSd where
 run:EndsD->SS->Prop
 mono:∀{E E' ss},E.Le E'->run E ss->run E' ss
def lR(K:Frag)(Jx:Hp->Prop)(c:Cs)(D:Ends):EndsD:=⟨fun ss=>∀ O σ H,StR K Jx c O σ H ss->D.nx σ H,fun d=>∀ v H,Rt K c H d v->D.rt v H,fun ss=>∀ O σ H,StR K Jx c O σ H ss->D.bk σ H,fun ss=>∀ O σ H,StR K Jx c O σ H ss->D.ct σ H⟩
def LS(K:Frag)(Jx:Hp->Prop)(t:TSd):TS:=fun D σ H=>∃ c O ss,StR K Jx c O σ H ss/\t.run (lR K Jx c D) ss
theorem _root_.L2.PS.weak{st:Stmt}{t t':TS}(h:PS X st t)(w:∀ D σ H,t' D σ H->t D σ H):PS X st t':=fun pins s σ H D I q=>h pins s σ H D I (w D σ H q)
theorem _root_.L2.PSs.weak{st:List Stmt}{t t':TS}(h:PSs X st t)(w:∀ D σ H,t' D σ H->t D σ H):PSs X st t':=fun pins s σ H D I q=>h pins s σ H D I (w D σ H q)
theorem StR.le{t:TEd}{Q:VK}(R:StR K Jx c O σ H ss){W:D->Prop}(h:t.run ss W)(hw:∀ d v H1,StR K Jx c O σ H1 ss->Ex c.f H H1->Rp K c.f O H1 d v->W d->Q v H1):LE K Jx t σ H Q :=
 ⟨c.f,O,ss,R.sl,t.mono (fun d q v H1 e r=>hw d v H1 (R.ex e) e r q) h⟩
theorem StR.lt{t:TTd}{Q:Bool->Hp->Prop}(R:StR K Jx c O σ H ss){W:Bool->Prop}(h:t.run ss W)(hw:∀ d H1,StR K Jx c O σ H1 ss->W d->Q d H1):LT K Jx t σ H Q :=
 ⟨c.f,O,ss,R.sl,t.mono (fun d q H1 e=>hw d H1 (R.ex e) q) h⟩
def d3:TSd:=⟨fun E ss=>E.nx ss,fun h q=>h.nx _ q⟩
theorem d3.nil:PSs X [] (LS X.K Jx d3):=pss_nil.weak fun D σ H ⟨c,O,ss,R,q⟩=>q O σ H R
theorem d3.pass:PS X (.Pass pos) (LS X.K Jx d3):=ps_pass.weak fun D σ H ⟨c,O,ss,R,q⟩=>q O σ H R
def iW:TSd:=⟨fun E ss=>E.bk ss,fun h q=>h.bk _ q⟩
theorem iW.ok:PS X (.Break pos) (LS X.K Jx iW):=ps_break.weak fun D σ H ⟨c,O,ss,R,q⟩=>q O σ H R
@[reducible] def EndsD.to(E:EndsD)(P:SS->Prop):EndsD:=⟨P,E.rt,E.bk,E.ct⟩
def dSq(t u:TSd):TSd:=⟨fun E ss=>t.run (E.to (u.run E)) ss,fun {E E' ss} h q=>t.mono (E:=E.to (u.run E)) (E':=E'.to (u.run E')) ⟨fun s q=>u.mono h q,h.rt,h.bk,h.ct⟩ q⟩
theorem dSq.ok{st:Stmt}{sts:List Stmt}{t u:TSd}(h:PS X st (LS X.K Jx t))(g:PSs X sts (LS X.K Jx u)):PSs X (st::sts) (LS X.K Jx (dSq t u)):=(jP h g).weak fun D σ H ⟨c,O,ss,R,q⟩ =>
 ⟨c,O,ss,R,t.mono (E:=(lR X.K Jx c D).to (u.run (lR X.K Jx c D))) ⟨fun s q O' σ' H' R'=>⟨c,O',s,R',q⟩,fun _ q=>q,fun _ q=>q,fun _ q=>q⟩ q⟩
theorem dSq.one{st:Stmt}{t:TSd}(h:PS X st (LS X.K Jx t)):PSs X [st] (LS X.K Jx t):=jC h
def d5(fz:List Nat)(e:TEd):TSd:=⟨fun E ss=>e.run (frz fz ss) E.rt,fun h q=>e.mono h.rt q⟩
theorem d5.ok{fz:List Nat}(h:PE X a (LE X.K Jx ta)):PS X (.Return (some a) pos) (LS X.K Jx (d5 fz ta)):=(kr h).weak fun D σ H ⟨c,O,ss,R,q⟩=>by
 obtain⟨O',R⟩:=R.frz (fz:=fz);exact R.le q fun d v H1 R1 _ r w=>w v H1 (R1.rt r)
def ik:TSd:=⟨fun E ss=>E.rt .non,fun h q=>h.rt _ q⟩
theorem ik.ok:PS X (.Return none pos) (LS X.K Jx ik):=ps_retN.weak fun D σ H ⟨c,O,ss,R,q⟩=>q .non H (R.rt rfl)
def dIf(fz:List Nat)(k:TTd)(t u:TSd):TSd:=⟨fun E ss=>k.run (frz fz ss) fun b=>if b=true then t.run E (frz fz ss) else u.run E (frz fz ss),fun {E E' ss} h q=>k.mono (fun b q=>by
 revert q;cases b
 ·exact u.mono h
 ·exact t.mono h) q⟩
theorem dIf.ok{fz:List Nat}{st su:List Stmt}{t u:TSd}(hk:PT X a (LT X.K Jx tA))(ht:PSs X st (LS X.K Jx t))(hu:PSs X su (LS X.K Jx u)):PS X (.If a st su pos) (LS X.K Jx (dIf fz tA t u)):=(m9 hk ht hu).weak fun D σ H ⟨c,O,ss,R,q⟩=>by
 obtain⟨O',R⟩:=R.frz (fz:=fz);refine R.lt q fun b H1 R1 w=>?_;cases b
 ·exact⟨c,O',_,R1,w⟩
 ·exact⟨c,O',_,R1,w⟩
def d8(fz:List Nat)(g:TGd)(e:TEd):TSd:=⟨fun E ss=>e.run (frz fz ss) fun d=>g.run d (frz fz ss) E.nx,fun h q=>e.mono (fun d q=>g.mono h.nx q) q⟩
theorem StR.lg{g:TGd}{d:D}{v:V}{Q:St->Hp->Prop}{W:SS->Prop}(R:StR K Jx c O σ H ss)(r:Rp K c.f O H d v)(h:g.run d ss W)(hw:∀ ss' σ' H1,StR K Jx c O σ' H1 ss'->W ss'->Q σ' H1):LG K Jx g v σ H Q :=
 ⟨c.f,O,ss,d,R.sl,r,g.mono (fun s q σ' H1 e S sb ag=>hw s σ' H1 ((R.ex e).to S sb) q) h⟩
theorem d8.ok{fz:List Nat}{tg:Expr}{g:TGd}(h:PE X a (LE X.K Jx ta))(hg:PG X tg (LG X.K Jx g))(hs:swapsWithSole [tg] a pos.line X.env=pure false)(hw:swappedStores [tg] a X.env=pure none)(h1:(assignEach [tg] X.env).map (·.2)=[assign tg X.env]):PS X (.Assign [tg] a pos) (LS X.K Jx (d8 fz g ta)):=(ku h hg hs hw h1).weak fun D σ H ⟨c,O,ss,R,q⟩=>by
 obtain⟨O',R⟩:=R.frz (fz:=fz);exact R.le q fun d v H1 R1 _ r w=>R1.lg r w fun s' σ' H2 R2 w=>w O' σ' H2 R2
end Dp
namespace Dp
open PySem L2
variable{K:Frag}{Jx:Hp->Prop}{f:Addr}{O O':List Addr}{H H':Hp}{X:Cx}{σ:St}{ss:SS}{a b:Expr}{ta tb tc:TEd}{tA tB:TTd}{pos:Pos}{c:Cs}
theorem i4.ok{fz:List Nat}{i:Nat}{x:Str}{p':Pos}(hN:X.N.Nodup)(hi:X.N[i]? = some x)(hx:tX X.env.scope x)(h:PE X a (LE X.K Jx ta))(hs:swapsWith a (some (.Name x p')) pos.line X.env=pure false)(hf:X.fn x=true\/X.env.scope.names.lookup x=some .local) :
  PS X (.Assign [.Name x p'] a pos) (LS X.K Jx (d8 fz (gNm i) ta)):=(lc hN hi hx h hs hf).weak fun D σ H ⟨c,O,ss,R,q⟩=>by
 obtain⟨O',R⟩:=R.frz (fz:=fz);exact R.le q fun d v H1 R1 _ r w=>w O' _ H1 (R1.to (R1.sl.set r) Sub.set)
def gW(fz:List Nat)(i j:Nat)(a b:TEd):TSd:=⟨fun E ss=>a.run (frz fz ss) fun d=>b.run (frz fz ss) fun d'=>E.nx (((frz fz ss).set i (.val d)).set j (.val d')),fun h q=>a.mono (fun d q=>b.mono (fun d' q=>h.nx _ q) q) q⟩
theorem gW.weak{fz:List Nat}{i j:Nat}{D:Ends}{ta tb:TEd}(h:LS X.K Jx (gW fz i j ta tb) D σ H):yc i j (nQ (LE X.K Jx ta) (nQ (LE X.K Jx tb) vV)) D σ H:=by
 obtain⟨c,O,ss,R,q⟩:=h;obtain⟨O',R⟩:=R.frz (fz:=fz);refine R.le q fun d v H1 R1 e1 r w=>R1.le w fun d' v' H2 R2 e2 r' w=>?_;have S:=(R2.sl.set (i:=i) (R1.sl.up e2 r)).set (i:=j) r';exact⟨v,v',rfl,w O' _ H2 (R2.to S (Sub.trans Sub.set Sub.set))⟩
def eB(k:TTd)(t:TSd):TSd:=⟨fun E ss=>∃(I:SS->Prop) (μ:SS->Nat),I ss/\∀ s,I s->k.run s fun b=>if b=true then t.run ⟨fun s'=>I s'/\μ s'<μ s,E.rt,E.nx,fun s'=>I s'/\μ s'<μ s⟩ s else E.nx s,fun {E E' ss} h ⟨I,μ,q0,q⟩=>⟨I,μ,q0,fun s i=>k.mono (fun b q=>by
 revert q;cases b
 ·exact h.nx _
 ·exact t.mono ⟨fun _ q=>q,h.rt,h.nx,fun _ q=>q⟩) (q s i)⟩⟩
theorem eB.ok{st:List Stmt}{t:TSd}(hp:PassesOwn (model X.prog X.w) X.A X.env X.xe)(hk:PT X a (LT X.K Jx tA))(ht:PSs X st (LS X.K Jx t)):PS X (.While a st [] pos) (LS X.K Jx (eB tA t)):=(ux hp hk ht).weak fun D σ H ⟨c,O,ss,R,I,μ,q0,q⟩=>by
 refine⟨fun m σ H=>∃ O s,StR X.K Jx c O σ H s/\I s/\μ s=m,⟨_,O,ss,R,q0,rfl⟩,?_⟩;rintro m σ H ⟨O,s,R,i0,rfl⟩;refine R.lt (q s i0) fun b H1 R1 w=>?_;cases b with
 | false=>exact w O σ H1 R1
 | true =>
  refine⟨fun σ' H'=>∃ O' s',StR X.K Jx c O' σ' H' s'/\I s'/\μ s'<μ s,fun σ' H' ⟨O',s',R',i',l⟩=>⟨_,l,O',s',R',i',rfl⟩,c,O,s,R1,?_⟩;refine t.mono ?_ w;exact⟨fun s' q O' σ' H' R'=>⟨O',s',R',q⟩,fun _ q=>q,fun _ q=>q,fun s' q O' σ' H' R'=>⟨O',s',R',q⟩⟩
def gX(fz:List Nat)(it:TAd)(g:TGd)(t:TSd):TSd:=⟨fun E ss=>it.run (frz fz ss) fun ds=>∃ I:Nat->SS->Prop,I 0 (frz fz ss)/\(∀ i d s,ds[i]? = some d->I i s->g.run d s fun s1=>t.run ⟨I (i+1),E.rt,E.nx,I (i+1)⟩ s1)/\∀ s,I ds.length s->E.nx s,fun {E E' ss} h q=>it.mono (fun ds ⟨I,q0,q1,q2⟩=>⟨I,q0,fun i d s e i0=>g.mono (fun s1 q=>t.mono (E:=⟨I (i+1),E.rt,E.nx,I (i+1)⟩) (E':=⟨I (i+1),E'.rt,E'.nx,I (i+1)⟩) ⟨fun _ q=>q,h.rt,h.nx,fun _ q=>q⟩ q) (q1 i d s e i0),fun s i0=>h.nx _ (q2 s i0)⟩) q⟩
theorem gX.ok{fz:List Nat}{tg iter:Expr}{st:List Stmt}{it:TAd}{g:TGd}{t:TSd}(hp:PassesOwn (model X.prog X.w) X.A X.env X.xe)(hc:X.calm=true)(hi:PI X tg iter (LI X.K Jx it))(hg:PG X tg (LG X.K Jx g))(ht:PSs X st (LS X.K Jx t))(hs:∀ x,foldedSetIterable iter X.env x=pure x) :
  PS X (.For tg iter st [] pos) (LS X.K Jx (gX fz it g t)):=(yB hp hc hi hg ht hs).weak fun D σ H ⟨c,O,ss,R,q⟩=>by
 obtain⟨O,R⟩:=R.frz (fz:=fz);refine⟨c.f,O,_,R.sl,it.mono (fun ds q J H1 e1 D0=>?_) q⟩;obtain⟨I,q0,q1,q2⟩:=q;have R1:=R.ex e1;refine⟨fun i m σ H=>∃ O2 s,StR X.K Jx (c.here H1 O) O2 σ H s/\I i s/\m=ds.length-i/\i<=ds.length,⟨_,O,_,R1.here,q0,rfl,bq _⟩,?_⟩;rintro i m σ H ⟨O2,s,R2,i0,rfl,hi⟩;have kp:Kp O H1 H:=fun b o n h=>R2.kp.kp b o h (fun z=>n (by rw [z];exact R.sl.fO)) (.inr n);rcases bR i ds.length with hk|hk
 ·refine .inr ⟨D0.go H i kp hk,fun σ' H'=>∃ O3 s',StR X.K Jx (c.here H1 O) O3 σ' H' s'/\I (i+1) s',fun σ' H' ⟨O3,s',R3,i3⟩=>⟨ds.length-(i+1),by first|lia|omega,O3,s',R3,i3,rfl,hk⟩,fun x H' y=>?_⟩;obtain⟨d,ed,e2,rd⟩:=D0.yld O2 H i x H' R2.new R2.sl.fO R2.sl.al kp R2.sl.fl hk y;refine (R2.ex e2).lg rd (q1 i d s ed i0) fun s1 σ' H3 R3 w=>?_;refine⟨c.here H1 O,O2,s1,R3,?_⟩;refine t.mono ?_ w;exact⟨fun s' q O' σ' H' R'=>⟨O',s',R',q⟩,fun d q v H r=>q v H (Rt.back R1 r),fun s' q O' σ' H' R'=>q O' σ' H' (StR.back R1 R'),fun s' q O' σ' H' R'=>⟨O',s',R',q⟩⟩
 ·have ek:i=ds.length:=by first|lia|omega
  subst ek;exact .inl ⟨D0.stop H kp,q2 s i0 O2 σ H (StR.back R1 R2)⟩
def LF(K:Frag)(Jx:Hp->Prop)(t:TEd):TE:=fun σ H Q=>∃ f O ss,SlD K Jx f O σ H ss/\t.run ss fun d=>∃ l,d = .lst l/\∀ p xs H',Ex f H H'->H p=none->H' p=some (.lst xs)->Rps K f (p::O) H' l xs->Q (.ref p) H'
theorem StR.mkOwn{l:List D}{p:Addr}{xs:List V}{i:Nat}(R:StR K Jx c O σ H ss)(e:Ex c.f H H')(hp:H p=none)(hx:H' p=some (.lst xs))(r':Rps K c.f (p::O) H' l xs):StR K Jx c (p::O) (σ.set i (some (.ref p))) H' (ss.set i (.own l)):=by
 have mv:∀ b∈p::O,b∈O\/H b=none:=fun b hb=>by
  rcases ai.mp hb with z|z
  ·exact .inr (z ▸ hp)
  ·exact .inl z
 have kp:=e.kp R.sl.fO;have np:p ∉ O:=R.sl.nO hp;have npf:p≠c.f:=fun z=>np (z ▸ R.sl.fO);have low:c.H p=none\/p∈c.S:=by
  cases h:c.H p with
  | none=>exact .inl rfl
  | some o =>
   right;by_cases y:p∈c.S
   ·exact y
   ·rw [R.kp.kp p o h npf (.inr y)] at hp;cases hp
 have hne:∀(j:Nat) (l':List D) (b:Addr),ss[j]? = some (SD.own l')->σ[j]? = some (some (V.ref b))->b≠p:=fun j l' b q1 q2=>by
  obtain⟨b',ys,w1,w2,_⟩:=R.sl.own j l' q1;rw [w1] at q2;cases q2;rintro rfl;exact np w2
 refine⟨⟨e.fl,aq _ R.sl.fO,fun b hb=>?_,fun l r q=>?_,by rw [aO,aO];exact R.sl.len,fun j d q=>?_,fun j l' q=>?_,fun H' e'=>R.sl.j H' (e.trans e')⟩,fun b hb=>aq _ (R.sub b hb),R.kp.ex e,fun b hb=>?_,fun j l' b q eb=>?_,R.jk⟩
 ·rcases ai.mp hb with z|z
  ·exact⟨xs,z ▸ hx⟩
  ·exact (R.sl.ex e).al b z
 ·intro z;rcases ai.mp z with w|w
  ·subst w;obtain⟨l0,ns,i,c',a',b',f1,f2,f3⟩:=R.sl.fl;obtain⟨r',h2⟩:=e.sm.key _ _ f1;rw [h2] at q;cases q;rw [hp] at f2;cases f2
  ·exact (R.sl.ex e).lO _ _ q w
 ·by_cases z:i=j
  ·subst z;rw [ay,if_pos rfl] at q;split at q <;> cases q
  ·rw [au z] at q ⊢;obtain⟨v,w1,w2⟩:=R.sl.val j d q;exact⟨v,w1,w2.moved mv kp R.sl.al⟩
 ·by_cases z:i=j
  ·subst z;rw [ay,if_pos rfl] at q;split at q
   ·rename_i hl;cases q;exact⟨p,xs,by rw [ay,if_pos rfl,if_pos (by rw [← R.sl.len];exact hl)],ar,npf,hx,r'⟩
   ·cases q
  ·rw [au z] at q ⊢;obtain⟨b,ys,w1,w2,w3,w4,w5⟩:=R.sl.own j l' q;exact⟨b,ys,w1,aq _ w2,w3,e.sm.app b _ w3 w4,w5.moved mv kp R.sl.al⟩
 ·rcases ai.mp hb with z|z
  ·subst z;exact low.symm
  ·exact R.new b z
 ·by_cases z:i=j
  ·subst z;rw [ay,if_pos rfl] at eb;split at eb
   ·cases eb;refine⟨low,fun w=>np (R.sub _ w),fun j' l2 q2 e2=>?_⟩;by_cases z2:i=j'
    ·exact z2.symm
    ·rw [au z2] at q2 e2;exact absurd rfl (hne j' l2 _ q2 e2)
   ·cases eb
  ·rw [au z] at q eb;obtain⟨w1,w2,w3⟩:=R.own j l' b q eb;refine⟨w1,w2,fun j' l2 q2 e2=>?_⟩;by_cases z2:i=j'
   ·subst z2;rw [ay,if_pos rfl] at e2;split at e2
    ·cases e2;exact absurd rfl (hne j l' _ q eb)
    ·cases e2
   ·rw [au z2] at q2 e2;exact w3 j' l2 q2 e2
theorem StR.wr{l l':List D}{i:Nat}{a:Addr}{xs:List V}(R:StR K Jx c O σ H ss)(hs:ss[i]? = some (SD.own l))(ha:σ[i]? = some (some (V.ref a)))(r:Rps K c.f O H l' xs):StR K Jx c O σ (jr H a (.lst xs)) (ss.set i (.own l')):=by
 obtain⟨a',ys,h1,h2,h3,h4,h5⟩:=R.sl.own i l hs;rw [h1] at ha;cases ha;obtain⟨w1,w2,w3⟩:=R.own i l a hs h1;have hl:i<ss.length:=(av.mp hs).1;have kp:Kp O H (jr H a (.lst xs)):=fun b o n q=>by
  rw [jh (by rintro rfl;exact n h2)];exact q
 have fl:Fl (jr H a (.lst xs)) c.f:=by
  obtain⟨l0,ns,i,c',a',b',f1,f2,f3⟩:=R.sl.fl;refine⟨l0,ns,i,c',a',b',by rw [jh (Ne.symm h3)];exact f1,?_,f3⟩;rw [jh (by rintro rfl;exact R.sl.lO _ _ f1 h2)];exact f2
 have gt:∀{j:Nat} {s:SD},(ss.set i (.own l'))[j]? = some s->(j=i/\s = .own l')\/(j≠i/\ss[j]? = some s):=fun {j s} q=>by
  by_cases z:i=j
  ·subst z;rw [ay,if_pos rfl,if_pos hl] at q;exact .inl ⟨rfl,(Option.some.inj q).symm⟩
  ·rw [au z] at q;exact .inr ⟨Ne.symm z,q⟩
 have kc:Kpc c (jr H a (.lst xs)):=by
  refine⟨fun b o q n z=>?_,fun l r q=>?_⟩
  ·have nb:b≠a:=by
    rintro rfl;rcases z with z|z
    ·exact w2 z
    ·rcases w1 with w|w
     ·rw [w] at q;cases q
     ·exact z w
   rw [jh nb];exact R.kp.kp b o q n z
  ·obtain⟨r',q1⟩:=R.kp.key l r q;exact⟨r',by rw [jh (Ne.symm h3)];exact q1⟩
 refine⟨⟨fl,R.sl.fO,fun b hb=>?_,fun l r q=>by rw [jh (Ne.symm h3)] at q;exact R.sl.lO l r q,by rw [aO];exact R.sl.len,fun j d q=>?_,fun j l2 q=>?_,fun H' e'=>R.jk H' e'.fl (kc.ex e')⟩,R.sub,kc,R.new,fun j l2 b q e=>?_,R.jk⟩
 ·by_cases z:b=a
  ·subst z;exact⟨xs,ji⟩
  ·rw [jh z];exact R.sl.al b hb
 ·rcases gt q with⟨_,z⟩|⟨_,q⟩
  ·cases z
  ·obtain⟨v,q1,q2⟩:=R.sl.val j d q;exact⟨v,q1,q2.kp kp R.sl.al⟩
 ·rcases gt q with⟨rfl,z⟩|⟨z,q⟩
  ·cases z;exact⟨a,xs,h1,h2,h3,ji,r.kp kp R.sl.al⟩
  ·obtain⟨b,zs,q1,q2,q3,q4,q5⟩:=R.sl.own j l2 q;have nb:b≠a:=by
    rintro rfl;exact z (w3 j l2 q q1)
   exact⟨b,zs,q1,q2,q3,by rw [jh nb];exact q4,q5.kp kp R.sl.al⟩
 ·have q':∃ l3,ss[j]? = some (SD.own l3):=by
   rcases gt q with⟨rfl,z⟩|⟨z,q⟩
   ·exact⟨l,hs⟩
   ·exact⟨l2,q⟩
  obtain⟨l3,q'⟩:=q';obtain⟨p1,p2,p3⟩:=R.own j l3 b q' e;refine⟨p1,p2,fun j' l4 q4 e4=>?_⟩;rcases gt q4 with⟨rfl,z⟩|⟨z,q5⟩
  ·exact p3 _ l hs e4
  ·exact p3 j' l4 q5 e4
end Dp
namespace Dp
open PySem L2
variable{K:Frag}{Jx:Hp->Prop}{f:Addr}{O O':List Addr}{H H':Hp}{X:Cx}{σ:St}{ss:SS}{a b:Expr}{ta tb tc:TEd}{tA tB:TTd}{pos:Pos}{c:Cs}
theorem Rps.skip{p:Addr}{H1:Hp}(S:SlD K Jx f O σ H1 ss)(hp:H1 p=none){o:HO}{ds:List D}{vs:List V}(r:Rps K f O H1 ds vs):Rps K f (p::O) (jr H1 p o) ds vs :=
 r.moved (fun a z=>by
  rcases ai.mp z with w|w
  ·exact .inr (by rw [w];exact hp)
  ·exact .inl w) ((S.new hp o).kp S.fO) S.al
theorem Ex.low{H1:Hp}(e:Ex f H H1){p:Addr}(n:p≠f)(h:H1 p=none):H p=none:=e.sm.free n h
theorem eX.okF{es:List Expr}{t:TAd}(h:PA X es (LA X.K Jx t)):PE X (.List es pos) (LF X.K Jx (eX t)):=(qM h).weak fun σ H Q ⟨f,O,ss,S,q⟩ =>
 ⟨f,O,ss,S,t.mono (fun ds q vs H1 e r=>by
  obtain⟨hl,l,el,q⟩:=q;cases el;refine⟨by rw [r.len];exact hl,fun p hp=>?_⟩;have S1:=S.ex e;exact q p vs _ (e.trans (S1.new hp _)) (e.low (fun z=>S1.nO hp (z ▸ S1.fO)) hp) ji (Rps.skip S1 hp r)) q⟩
theorem je.okF(ha:PE X a (LE X.K Jx ta))(hb:PE X b (LE X.K Jx tb)):PE X (.BinOp a .Mult b pos) (LF X.K Jx (dW .Mult ta tb)):=(jB (pos:=pos) uP ha hb).weak fun σ H Q ⟨f,O,ss,S,q⟩=>by
 refine⟨f,O,ss,S,ta.mono (fun dx q v1 H1 e1 r1=>?_) q⟩;refine⟨f,O,ss,S.ex e1,tb.mono (fun dy q v2 H2 e2 r2=>?_) q⟩;have S2:=(S.ex e1).ex e2;have r1:=(S.ex e1).up e2 r1;cases dx <;> cases dy <;> first|(exact False.elim q)|skip
 ·obtain⟨_,l,el,_⟩:=q;cases el
 ·obtain⟨_,_,_,l,el,_⟩:=q;cases el
 ·obtain⟨_,_,_,l,el,_⟩:=q;cases el
 ·rename_i la k;obtain⟨q1,q2,q3,l,el,q⟩:=q;cases el;obtain⟨p0,xs,rfl,n1,h1,h2⟩:=r1;cases (show v2=_ from r2);refine⟨p0,k,xs,rfl,rfl,h1,q1,q2,by rw [h2.len];exact q3,fun p hp=>?_⟩;have e12:=e1.trans e2;exact q p _ _ (e12.trans (S2.new hp _)) (e12.low (fun z=>S2.nO hp (z ▸ S2.fO)) hp) ji (Rps.skip S2 hp (h2.flat _))
def gd(t:TEd):TEd:=⟨fun ss Q=>t.run ss fun d=>itemsS d fun l=>Q (.lst l),fun h q=>t.mono (fun d q=>itemsS.mono (fun l q=>h _ q) q) q⟩
theorem gd.okF{p:Pos}(hg:Gl X "list")(hm:X.mg "list" = none)(ha:PE X a (LE X.K Jx ta))(hs:starEach [a] X.env=[(false,eval a X.env)]):PE X (.Call (.Name "list" p) [a] [] pos) (LF X.K Jx (gd ta)) :=
 (mh (p:=p) (pos:=pos) (u7 X.K) hg hm kP (jg ha pa_nil hs) (by decide) (by decide) hs rfl).weak fun σ H Q ⟨f,O,ss,S,q⟩=>⟨f,O,ss,S,ta.mono (fun d q v H1 e r=>by
  have S1:=S.ex e;cases d <;> first|exact False.elim q|skip
  ·rename_i l0;obtain⟨l,el,q⟩:=q;cases el;obtain⟨p0,xs,rfl,h1,h2⟩:=r;exact⟨p0,xs,rfl,.inr h1,fun p hp=>q p _ _ (e.trans (S1.new hp _)) (e.low (fun z=>S1.nO hp (z ▸ S1.fO)) hp) ji (Rps.skip S1 hp h2)⟩
  ·rename_i l0;obtain⟨l,el,q⟩:=q;cases el;obtain⟨p0,xs,rfl,_,h1,h2⟩:=r;exact⟨p0,xs,rfl,.inl (SqL.of h1),fun p hp=>q p _ _ (e.trans (S1.new hp _)) (e.low (fun z=>S1.nO hp (z ▸ S1.fO)) hp) ji (Rps.skip S1 hp h2)⟩) q⟩
def iE(fz:List Nat)(i:Nat)(e:TEd):TSd:=⟨fun E ss=>e.run (frz fz ss) fun d=>match d with | .lst l=>E.nx ((frz fz ss).set i (.own l))|_=>False,fun {E E' ss} h q=>e.mono (fun d q=>by
 revert q;cases d <;> first|exact h.nx _|exact id) q⟩
theorem iE.ok{fz:List Nat}{i:Nat}{x:Str}{p':Pos}(hN:X.N.Nodup)(hi:X.N[i]? = some x)(hx:tX X.env.scope x)(h:PE X a (LF X.K Jx ta))(hs:swapsWith a (some (.Name x p')) pos.line X.env=pure false)(hf:X.fn x=true\/X.env.scope.names.lookup x=some .local) :
  PS X (.Assign [.Name x p'] a pos) (LS X.K Jx (iE fz i ta)):=(lc hN hi hx h hs hf).weak fun D σ H ⟨c,O,ss,R,q⟩=>by
 obtain⟨O',R⟩:=R.frz (fz:=fz);refine⟨c.f,O',_,R.sl,ta.mono (fun d q=>?_) q⟩;cases d <;> first|exact False.elim q|skip
 rename_i l;exact⟨l,rfl,fun p xs H1 e hp hx r=>q _ _ H1 (R.mkOwn e hp hx r)⟩
def iF(fz:List Nat)(i:Nat)(e:TEd):TSd:=⟨fun E ss=>match (frz fz ss)[i]? with|some (.own l)=>e.run (frz fz ss) fun d=>l.length<sizeLine/\E.nx ((frz fz ss).set i (.own (l++[d])))|_=>False,fun {E E' ss} h q=>by
 revert q;split
 ·exact e.mono fun d q=>⟨q.1,h.nx _ q.2⟩
 ·exact id⟩
theorem iF.ok{fz:List Nat}{i:Nat}{x:Expr}{ap cp:Pos}(hx:PE X x (lC i))(hb:attributeBase x "append" X.env (eval x X.env)=eval x X.env)(h:PE X a (LE X.K Jx ta))(hs:starEach [a] X.env=[(false,eval a X.env)])(hl:(ap.endLine == cp.line)=true)(hw:swapsWith (.Call (.Attribute x "append" ap) [a] [] cp) none pos.line X.env=pure false) :
  PS X (.Expr (.Call (.Attribute x "append" ap) [a] [] cp) pos) (LS X.K Jx (iF fz i ta)):=by
 refine (rQ (pos:=pos) (pS (apos:=ap) (cpos:=cp) PySem.F.plainAttrs_list PySem.F.slot_list_append PySem.F.type_list_append tz hx (jg h pa_nil hs) hb (by rw [hs];rfl) hl hs rfl) hw).weak fun D σ H ⟨c,O,ss,R,q⟩=>?_;obtain⟨O',R⟩:=R.frz (fz:=fz);have q:(match (frz fz ss)[i]? with|some (.own l)=>ta.run (frz fz ss) fun d=>l.length<sizeLine/\(lR X.K Jx c D).nx ((frz fz ss).set i (.own (l++[d])))|_=>False):=q;split at q
 ·rename_i l el;obtain⟨p,xs,h1,h2,h3,h4,h5⟩:=R.sl.own i l el;refine⟨_,h1,.inl ⟨rfl,xs,SqL.of h4⟩,R.le q fun d v H1 R1 e1 r w=>?_⟩;have hp:=e1.sm.app p _ h3 h4;have r5:=R.sl.ups e1 h5;refine⟨p,xs,v,rfl,rfl,hp,by rw [r5.len];exact w.1,w.2 O' σ _ (R1.wr el h1 (r5.append ⟨v,[],rfl,r,rfl⟩))⟩
 ·exact q.elim
theorem Rps.dropLast:∀{ds:List D} {vs:List V},Rps K f O H ds vs->Rps K f O H ds.dropLast vs.dropLast:=fun {ds vs} h=>by
 rw [dh,dh,h.len];exact h.take _
def iX(i:Nat):TSd:=⟨fun E ss=>match ss[i]? with|some (.own l)=>l≠[]/\E.nx (ss.set i (.own l.dropLast))|_=>False,fun {E E' ss} h q=>by
 revert q;split
 ·exact fun q=>⟨q.1,h.nx _ q.2⟩
 ·exact id⟩
theorem iX.ok{i:Nat}{x:Expr}{ap cp:Pos}(hx:PE X x (lC i))(hb:attributeBase x "pop" X.env (eval x X.env)=eval x X.env)(hl:(ap.endLine == cp.line)=true)(hw:swapsWith (.Call (.Attribute x "pop" ap) [] [] cp) none pos.line X.env=pure false) :
  PS X (.Expr (.Call (.Attribute x "pop" ap) [] [] cp) pos) (LS X.K Jx (iX i)):=by
 refine (rQ (pos:=pos) (qN (apos:=ap) (cpos:=cp) PySem.F.plainAttrs_list PySem.F.slot_list_pop PySem.F.type_list_pop u4 hx hb hl) hw).weak fun D σ H ⟨c,O,ss,R,q⟩=>?_;have q:(match ss[i]? with|some (.own l)=>l≠[]/\(lR X.K Jx c D).nx (ss.set i (.own l.dropLast))|_=>False):=q;split at q
 ·rename_i l el;obtain⟨p,xs,h1,h2,h3,h4,h5⟩:=R.sl.own i l el;have hne:0<l.length:=dr.mpr q.1;obtain⟨v,hv,_⟩:=h5.get (show l[l.length-1]? = some (l[l.length-1]'(by first|lia|omega)) by simp);exact⟨_,h1,.inl ⟨rfl,xs,SqL.of h4⟩,p,xs,v,rfl,rfl,h4,by rw [h5.len];exact hv,q.2 O σ _ (R.wr el h1 h5.dropLast)⟩
 ·exact q.elim
def il(j i:Nat):TSd:=⟨fun E ss=>match ss[i]? with|some (.own l)=>∃ d,l[l.length-1]? = some d/\E.nx ((ss.set i (.own l.dropLast)).set j (.val d))|_=>False,fun {E E' ss} h q=>by
 revert q;split
 ·exact fun⟨d,q1,q2⟩=>⟨d,q1,h.nx _ q2⟩
 ·exact id⟩
theorem il.ok{i j:Nat}{y:Str}{x:Expr}{ap cp p':Pos}(hN:X.N.Nodup)(hj:X.N[j]? = some y)(hy:tX X.env.scope y)(hf:X.fn y=true\/X.env.scope.names.lookup y=some .local)(hx:PE X x (lC i))(hb:attributeBase x "pop" X.env (eval x X.env)=eval x X.env)(hl:(ap.endLine == cp.line)=true)(hw:swapsWith (.Call (.Attribute x "pop" ap) [] [] cp) (some (.Name y p')) pos.line X.env=pure false) :
  PS X (.Assign [.Name y p'] (.Call (.Attribute x "pop" ap) [] [] cp) pos) (LS X.K Jx (il j i)):=by
 refine (lc (pos:=pos) hN hj hy (qN (apos:=ap) (cpos:=cp) PySem.F.plainAttrs_list PySem.F.slot_list_pop PySem.F.type_list_pop u4 hx hb hl) hw hf).weak fun D σ H ⟨c,O,ss,R,q⟩=>?_;have q:(match ss[i]? with|some (.own l)=>∃ d,l[l.length-1]? = some d/\(lR X.K Jx c D).nx ((ss.set i (.own l.dropLast)).set j (.val d))|_=>False):=q;split at q
 ·rename_i l el;obtain⟨p,xs,h1,h2,h3,h4,h5⟩:=R.sl.own i l el;obtain⟨d,q1,q2⟩:=q;obtain⟨v,hv,rv⟩:=h5.get q1;have R2:=R.wr el h1 h5.dropLast;have kp:Kp O H (jr H p (.lst xs.dropLast)):=fun b o n q=>by
   rw [jh (by rintro rfl;exact n h2)];exact q
  refine⟨_,h1,.inl ⟨rfl,xs,SqL.of h4⟩,p,xs,v,rfl,rfl,h4,by rw [h5.len];exact hv,q2 O _ _ (R2.to (R2.sl.set (rv.kp kp R.sl.al)) Sub.set)⟩
 ·exact q.elim
def atD(l:List D)(dk:D)(Q:Nat->Prop):Prop:=match dk with | .int z=>(match vO l.length z with|some j=>Q j|none=>False)|_=>False
theorem atD.mono{l:List D}{dk:D}{Q Q':Nat->Prop}(h:∀ j,Q j->Q' j):atD l dk Q->atD l dk Q':=by
 cases dk <;> first|exact id|skip
 unfold atD;dsimp only;split
 ·exact h _
 ·exact id
def gY(fz:List Nat)(i:Nat)(k e:TEd):TSd:=⟨fun E ss=>match (frz fz ss)[i]? with|some (.own l)=>e.run (frz fz ss) fun d=>k.run (frz fz ss) fun dk=>atD l dk fun j=>E.nx ((frz fz ss).set i (.own (l.set j d)))|_=>False,fun {E E' ss} h q=>by
 revert q;split
 ·exact e.mono fun d=>k.mono fun dk=>atD.mono fun j=>h.nx _
 ·exact id⟩
theorem gY.ok{fz:List Nat}{i:Nat}{x k:Expr}{tk:TEd}{sp:Pos}(hx:PE X x (lC i))(hk:PE X k (LE X.K Jx tk))(h:PE X a (LE X.K Jx ta))(hs:swapsWithSole [.Subscript x k sp] a pos.line X.env=pure false)(hw:swappedStores [.Subscript x k sp] a X.env=pure none)(h1:(assignEach [.Subscript x k sp] X.env).map (·.2)=[assign (.Subscript x k sp) X.env])
  (hg:PG X (.Subscript x k sp) (AC (lC i) (LE X.K Jx tk) xD)):PS X (.Assign [.Subscript x k sp] a pos) (LS X.K Jx (gY fz i tk ta)):=by
 refine (ku (pos:=pos) h hg hs hw h1).weak fun D σ H ⟨c,O,ss,R,q⟩=>?_;obtain⟨O',R⟩:=R.frz (fz:=fz);have q:(match (frz fz ss)[i]? with|some (.own l)=>ta.run (frz fz ss) fun d=>tk.run (frz fz ss) fun dk=>atD l dk fun j=>(lR X.K Jx c D).nx ((frz fz ss).set i (.own (l.set j d)))|_=>False):=q;split at q
 ·rename_i l el;obtain⟨p,xs,g1,g2,g3,g4,g5⟩:=R.sl.own i l el;refine R.le q fun d v H1 R1 e1 r w=>⟨_,g1,R1.le w fun dk vk H2 R2 e2 rk w=>?_⟩;cases dk <;> first|exact False.elim w|skip
  rename_i z;cases (show vk=_ from rk);unfold atD at w;dsimp only at w;split at w
  ·rename_i j ej;have e12:=e1.trans e2;have r5:=R.sl.ups e12 g5;exact⟨p,xs,z,j,rfl,rfl,e12.sm.app p _ g3 g4,by rw [r5.len];exact ej,w O' σ _ (R2.wr el g1 (r5.set (R1.sl.up e2 r) j))⟩
  ·exact w.elim
 ·exact q.elim
def oAug:Operator->OD
 | .Add=>fun x y Q=>match x,y with | .int i,.int j=>Q (.int (i+j)) | .str a,.str b=>a.length+b.length<=sizeLine/\Q (.str (a++b))|_,_=>False
 | .Sub=>oSub
 | .Mult=>fun x y Q=>match x,y with | .int i,.int j=>CMulB i j/\Q (.int (i*j))|_,_=>False
 | .FloorDiv=>oDiv
 | _=>qR
theorem oAug.mono{op:Operator}:∀{x y Q Q'},(∀ d,Q d->Q' d)->oAug op x y Q->oAug op x y Q':=by
 cases op;all_goals first|exact oSub.mono|exact oDiv.mono|exact fun _ q=>q|skip
 all_goals (intro x y Q Q' h;cases x <;> cases y <;> intro q <;> first|exact h _ q|exact q|exact⟨q.1,h _ q.2⟩)
theorem uq{k:Nat}(hr:Room k X.A)(op:Operator):Rng X (inplaceOp op) (oAug op):=by
 cases op;case Add =>
  refine⟨_,OpR.or2 wU qf,fun f O σ ss H dx dy x y Q R rx ry h=>?_⟩;cases dx <;> cases dy <;> first|(exact False.elim h)|skip
  ·cases rx;cases ry;exact .inl ⟨_,_,rfl,rfl,h _ H (Ex.refl R.fl) rfl⟩
  ·cases rx;cases ry;exact .inr ⟨_,_,rfl,rfl,h.1,h.2 _ H (Ex.refl R.fl) rfl⟩
 case Sub =>
  refine⟨_,wT,fun f O σ ss H dx dy x y Q R rx ry h=>?_⟩;cases dx <;> cases dy <;> first|(exact False.elim h)|skip
  cases rx;cases ry;exact⟨_,_,rfl,rfl,h _ H (Ex.refl R.fl) rfl⟩
 case Mult=>exact me vb fun dx dy Q h=>by cases dx <;> cases dy <;> first|(exact False.elim h)|exact⟨_,_,rfl,rfl,h.1,h.2⟩
 case FloorDiv=>exact me (tJ hr) fun dx dy Q h=>by cases dx <;> cases dy <;> first|(exact False.elim h)|exact⟨_,_,rfl,rfl,h.1,h.2⟩
 all_goals exact Rng.never
def hX(fz:List Nat)(i:Nat)(op:Operator)(e:TEd):TSd:=⟨fun E ss=>match (frz fz ss)[i]? with|some (.val x)=>e.run (frz fz ss) fun y=>oAug op x y fun z=>E.nx ((frz fz ss).set i (.val z))|_=>False,fun {E E' ss} h q=>by
 revert q;split
 ·exact e.mono fun y=>oAug.mono fun z=>h.nx _
 ·exact id⟩
theorem hX.ok{k0:Nat}{fz:List Nat}{i:Nat}{x:Str}{op:Operator}{p':Pos}(hk0:Room k0 X.A)(hN:X.N.Nodup)(hi:X.N[i]? = some x)(hx:tX X.env.scope x)(h:PE X a (LE X.K Jx ta))(hf:X.fn x=true\/X.env.scope.names.lookup x=some .local) :
  PS X (.AugAssign (.Name x p') op a pos) (LS X.K Jx (hX fz i op ta)):=by
 obtain⟨r,hr,hd⟩:=uq (X:=X) hk0 op;refine (yC (pos:=pos) hN hi hx h (ti:=r) hr hf).weak fun D σ H ⟨c,O,ss,R,q⟩=>?_;obtain⟨O',R⟩:=R.frz (fz:=fz);have q:(match (frz fz ss)[i]? with|some (.val x)=>ta.run (frz fz ss) fun y=>oAug op x y fun z=>(lR X.K Jx c D).nx ((frz fz ss).set i (.val z))|_=>False):=q;split at q
 ·rename_i dx ex;obtain⟨v,g1,g2⟩:=R.sl.val i dx ex;refine⟨v,g1,R.le q fun dy y H1 R1 e1 ry w=>?_⟩;refine hd c.f O' σ _ H1 dx dy v y _ R1.sl.tr (R.sl.up e1 g2) ry (oAug.mono (fun z w v' H2 e2 rz=>?_) w);have R2:=R1.ex e2;exact w O' _ H2 (R2.to (R2.sl.set rz) Sub.set)
 ·exact q.elim
def augD(l:List D)(dk:D)(Q:Nat->D->Prop):Prop:=match dk with | .int z=>0<=z/\(match l[z.toNat]? with|some x=>Q z.toNat x|none=>False)|_=>False
theorem augD.mono{l:List D}{dk:D}{Q Q':Nat->D->Prop}(h:∀ j x,Q j x->Q' j x):augD l dk Q->augD l dk Q':=by
 cases dk <;> first|exact id|skip
 unfold augD;dsimp only;split
 ·exact fun q=>⟨q.1,h _ _ q.2⟩
 ·exact id
def gZ(fz:List Nat)(i:Nat)(k:TEd)(op:Operator)(e:TEd):TSd:=⟨fun E ss=>match (frz fz ss)[i]? with|some (.own l)=>k.run (frz fz ss) fun dk=>augD l dk fun j x=>e.run (frz fz ss) fun y=>oAug op x y fun z=>E.nx ((frz fz ss).set i (.own (l.set j z)))|_=>False,fun {E E' ss} h q=>by
 revert q;split
 ·exact k.mono fun dk=>augD.mono fun j x=>e.mono fun y=>oAug.mono fun z=>h.nx _
 ·exact id⟩
theorem gZ.ok{k0:Nat}{fz:List Nat}{i:Nat}{x k:Expr}{tk:TEd}{op:Operator}{sp:Pos}(hk0:Room k0 X.A)(hx:PE X x (lC i))(hk:PE X k (LE X.K Jx tk))(h:PE X a (LE X.K Jx ta))(ha:∀ ov iv new,augStore k ov iv new=(do holding [new,ov,iv] (setItem ov iv new);release [new,ov,iv] [];pure .next)) :
  PS X (.AugAssign (.Subscript x k sp) op a pos) (LS X.K Jx (gZ fz i tk op ta)):=by
 obtain⟨r,hr,hd⟩:=uq (X:=X) hk0 op;refine (v9 (pos:=pos) (tpos:=sp) hx hk (BX X.K) h (tip:=r) hr jN ha).weak fun D σ H ⟨c,O,ss,R,q⟩=>?_;obtain⟨O',R⟩:=R.frz (fz:=fz);have q:(match (frz fz ss)[i]? with|some (.own l)=>tk.run (frz fz ss) fun dk=>augD l dk fun j x=>ta.run (frz fz ss) fun y=>oAug op x y fun z=>(lR X.K Jx c D).nx ((frz fz ss).set i (.own (l.set j z)))|_=>False):=q;split at q
 ·rename_i l el;obtain⟨p,xs,g1,g2,g3,g4,g5⟩:=R.sl.own i l el;refine⟨_,g1,R.le q fun dk vk H1 R1 e1 rk w=>?_⟩;cases dk <;> first|exact False.elim w|skip
  rename_i z;cases (show vk=_ from rk);obtain⟨z0,w⟩:=w;obtain⟨j,rfl⟩:=aI z0;rw [aX] at w;split at w
  ·rename_i dx hx;obtain⟨v,hv,rv⟩:=g5.get hx;refine⟨p,xs,v,j,rfl,rfl,SqL.of (e1.sm.app p _ g3 g4),hv,R1.le w fun dy y H2 R2 e2 ry w=>?_⟩;refine hd c.f O' σ _ H2 dx dy v y _ R2.sl.tr (R1.sl.up e2 (R.sl.up e1 rv)) ry (oAug.mono (fun z w v' H3 e3 rz=>?_) w);have R3:=R2.ex e3;have e13:=e1.trans (e2.trans e3);have r5:=R.sl.ups e13 g5;have hj:j<xs.length:=(av.mp hv).1;refine⟨p,xs,_,j,rfl,rfl,e13.sm.app p _ g3 g4,?_,w O' σ _ (R3.wr el g1 (r5.set rz j))⟩;unfold vO;rw [if_pos (by first|lia|omega),if_pos (by first|lia|omega),aX]
  ·exact w.elim
 ·exact q.elim
def ownInt(l:D)(b:TEd)(s:SS)(Q:List D->Int->Prop):Prop:=match l with
 | .lst l=>b.run s fun d=>match d with | .int z=>Q l z|_=>False
 | _=>False
theorem ownInt.mono{l:D}{b:TEd}{s:SS}{Q Q':List D->Int->Prop}(h:∀ l z,Q l z->Q' l z):ownInt l b s Q->ownInt l b s Q':=by
 cases l <;> first|exact id|skip
 exact b.mono fun d q=>by
  revert q;cases d <;> first|exact id|exact h _ _
def io(fz:List Nat)(i j:Nat)(a b:TEd):TSd:=⟨fun E ss=>a.run (frz fz ss) fun d=>ownInt d b (frz fz ss) fun l z=>E.nx (((frz fz ss).set i (.own l)).set j (.val (.int z))),fun h q=>a.mono (fun d q=>ownInt.mono (fun l z q=>h.nx _ q) q) q⟩
theorem io.weak{fz:List Nat}{i j:Nat}{D:Ends}{σ:St}{ta tb:TEd}(h:LS X.K Jx (io fz i j ta tb) D σ H):yc i j (nQ (LF X.K Jx ta) (nQ (LE X.K Jx tb) vV)) D σ H:=by
 obtain⟨c,O,ss,R,q⟩:=h;obtain⟨O',R⟩:=R.frz (fz:=fz);refine⟨c.f,O',_,R.sl,ta.mono (fun d q=>?_) q⟩;cases d <;> first|exact False.elim q|skip
 rename_i l;refine⟨l,rfl,fun p xs H1 e1 hp hx r=>?_⟩;have R1:=R.ex e1;refine R1.le q fun d' v' H2 R2 e2 r' w=>?_;cases d' <;> first|exact False.elim w|skip
 rename_i z;cases (show v'=_ from r');have pO:p ∉ O':=fun hO=>by
  obtain⟨ys,hy⟩:=R.sl.al p hO;rw [hp] at hy;cases hy
 have kp:=e2.kp R1.sl.fO;have kp':Kp (p::O') H1 H2:=fun b o n h=>kp b o (fun z=>n (aq _ z)) h;have al':∀ b∈p::O',∃ xs,H1 b=some (.lst xs):=fun b hb=>by
  rcases ai.mp hb with z|z
  ·exact⟨xs,z ▸ hx⟩
  ·exact R1.sl.al b z
 have R3:=R.mkOwn (i:=i) (e1.trans e2) hp (kp p _ pO hx) (r.kp kp' al');exact⟨.ref p,.int z,rfl,w (p::O') _ H2 (R3.to (R3.sl.set (i:=j) (d:=.int z) (v:=.int z) rfl) Sub.set)⟩
def startD(n:Nat)(ds:List D):SS:=ds.map SD.val++List.replicate (n-ds.length) SD.no
theorem zg{H':Hp}(fl:Fl H' f)(k:Kpc ⟨f,O,H,O⟩ H'):Ex f H H':=⟨⟨fun b o n h=>k.kp b o h n (by by_cases z:b∈O;exact .inl z;exact .inr z),k.key⟩,fl⟩
theorem startD.ok{N:List Str}{ds:List D}{vs:List V}(fl:Fl H f)(fO:f∈O)(al:∀ a∈O,∃ xs,H a=some (.lst xs))(lO:∀ l r,H f=some (.lst (.ref l::r))->l ∉ O)(r:Rps K f O H ds vs)(hj:∀ H',Ex f H H'->Jx H'):StR K Jx ⟨f,O,H,O⟩ O (L2.start N vs) H (startD N.length ds):=by
 have len:(startD N.length ds).length=(L2.start N vs).length:=by
  unfold startD L2.start;rw [aF,aF,aH,aH,cu,cu,r.len]
 have get:∀{i:Nat} {s:SD},(startD N.length ds)[i]? = some s->(∃ d,s = .val d/\ds[i]? = some d)\/s = .no:=fun {i s} h=>by
  unfold startD at h;rcases bR i (ds.map SD.val).length with z|z
  ·rw [bE z,aV] at h;obtain⟨d,h1,h2⟩:=aa.mp h;exact .inl ⟨d,h2.symm,h1⟩
  ·rw [bS z] at h;exact .inr (cZ (aK h))
 refine⟨⟨fl,fO,al,lO,len,fun i d h=>?_,fun i l h=>?_,hj⟩,fun _ h=>h,⟨fun _ _ h _ _=>h,fun l r h=>⟨r,h⟩⟩,fun a h=>.inl h,fun i l a h=>?_,fun H' fl' k=>hj H' (zg fl' k)⟩
 ·rcases get h with⟨d',e,h1⟩|e
  ·cases e;obtain⟨v,h2,h3⟩:=r.get h1;refine⟨v,?_,h3⟩;unfold L2.start;have hv:=(av.mp h2).1;rw [bE (by rw [aH];exact hv),aV,h2];rfl
  ·cases e
 ·rcases get h with⟨d',e,h1⟩|e <;> cases e
 ·rcases get h with⟨d',e,h1⟩|e <;> cases e
@[reducible] def jA(Q:D->Prop):EndsD:=⟨fun _=>Q .non,Q,fun _=>False,fun _=>False⟩
def Does(n:Nat)(t:TSd)(s:SpB):Prop:=∀ ds Q,ds.length=s.n->s.run ds Q->t.run (jA Q) (startD n ds)
theorem Does.ok{t:TSd}{s:SpB}{N:List Str}(h:Does N.length t s){vs:List V}{Q:VK}{E:XK}(hs:mM K s.n s.run vs H Q E):LS K (fun _=>True) t { nx:=fun _ H'=>Q .non H',rt:=Q } (L2.start N vs) H:=by
 obtain⟨hn,f,O,ds,fl,fO,al,lO,r,q⟩:=hs;refine⟨⟨f,O,H,O⟩,O,_,startD.ok fl fO al lO r fun _ _=>trivial,?_⟩;have q:=h ds _ (r.len.symm.trans hn) q;refine t.mono ?_ q;refine⟨fun s q O' σ' H' R=>?_,fun d q v H' R=>?_,fun _ q=>q.elim,fun _ q=>q.elim⟩
 ·exact q .non H' ⟨⟨fun b o n h=>R.kp.kp b o h n (by by_cases z:b∈O;exact .inl z;exact .inr z),R.kp.key⟩,R.sl.fl⟩ rfl
 ·exact q v H' ⟨⟨fun b o n h=>R.kp.kp b o h n (by by_cases z:b∈O;exact .inl z;exact .inr z),R.kp.key⟩,R.fl⟩ R.rp
end Dp
namespace Dp
open PySem L2
variable{K:Frag}{Jx:Hp->Prop}{f:Addr}{O O':List Addr}{H H':Hp}{X:Cx}{σ:St}{ss:SS}{a b:Expr}{ta tb tc:TEd}{tA tB:TTd}{pos:Pos}{c:Cs}
def tY(K:Frag)(n:Nat)(sp:B8):Sp:=fun vs H Q _=>vs.length=n/\∃ f O ds,Fl H f/\f∈O/\(∀ a∈O,∃ xs,H a=some (.lst xs))/\(∀ l r,H f=some (.lst (.ref l::r))->l ∉ O)/\Rps K f O H ds vs/\sp ds fun d=>∃ l,d = .lst l/\∀ p xs H',Ex f H H'->H p=none->H' p=some (.lst xs)->Rps K f (p::O) H' l xs->Q (.ref p) H'
theorem dU.okF{e:Expr}{s:SpB}{t:TAd}(h:PE X e (mC (tY X.K s.n s.run) [] E0 (LA X.K Jx t))):PE X e (LF X.K Jx (dU s t)):=h.weak fun σ H Q ⟨f,O,ss,S,q⟩ =>
 ⟨f,O,ss,S,t.mono (fun ds q vs H1 e1 r1=>by
  have S1:=S.ex e1;refine⟨by rw [aD,r1.len];exact q.1,f,O,ds,S1.fl,S1.fO,S1.al,S1.lO,by rw [aD];exact r1,?_⟩;exact s.mono (fun d ⟨l,el,q⟩=>⟨l,el,fun p xs H' e hp hx r=>q p xs H' (e1.trans e) (e1.low (fun z=>S1.nO hp (z ▸ S1.fO)) hp) hx r⟩) q.2) q⟩
end Dp
namespace Dp
open PySem L2
variable{K:Frag}{Jx:Hp->Prop}{f:Addr}{O O':List Addr}{H H':Hp}{X:Cx}{σ:St}{ss:SS}{a b:Expr}{ta tb tc:TEd}{tA tB:TTd}{pos:Pos}{c:Cs}
mutual
def D.lf:D->Bool
 | .tup ds=>D.lfs ds
 | .lst _=>false | .fl=>false | .fn _=>true
 | .exn _ _ ds=>D.lfs ds
 | .dct _ ds=>D.lfs ds
 | .int _=>true | .str _=>true | .non=>true | .bl _=>true
def D.lfs:List D->Bool
 | []=>true
 | d::ds=>d.lf && D.lfs ds
end
mutual
theorem Rp.any:∀{d:D} {v:V},d.lf=true->Rp K f O H d v->Rp K f O' H d v
 | .non,_,_,h=>h
 | .bl _,_,_,h=>h
 | .int _,_,_,h=>h
 | .str _,_,_,h=>h
 | .fl,_,z,_=>by cases z
 | .fn _,_,_,h=>h
 | .lst _,_,z,_=>by cases z
 | .tup l,v,z,h=>by
  obtain⟨a,xs,e1,h1,h2⟩:=h;exact⟨a,xs,e1,h1,Rps.any z h2⟩
 | .exn C x l,v,z,h=>by
  obtain⟨a,us,e1,h1,h2⟩:=h;exact⟨a,us,e1,h1,Rps.any z h2⟩
 | .dct ks l,v,z,h=>by
  obtain⟨a,us,e1,h1,h2,h3⟩:=h;exact⟨a,us,e1,h1,h2,Rps.any z h3⟩
theorem Rps.any:∀{ds:List D} {vs:List V},D.lfs ds=true->Rps K f O H ds vs->Rps K f O' H ds vs
 | [],_,_,h=>h
 | d::ds,_,z,h=>by
  have z:=ad.mp (show (d.lf && D.lfs ds)=true from z);obtain⟨v,r,e1,h1,h2⟩:=h;exact⟨v,r,e1,Rp.any z.1 h1,Rps.any z.2 h2⟩
end
end Dp
namespace L2
open PySem PySem.Spec PyProof.Rows
theorem mX:∀{zs:List Str} {us:List Value},Vals (zs.map V.str) us->StrsAre us zs
 | [],_,.nil=>.nil
 | z::zs,_,.cons r t=>by
  obtain⟨tk,rfl⟩:=(show ∃ t,_=Value.str z t from r);exact .cons _ _ (mX t)
variable{X:Cx}
def Aa(K:Frag):V->List V->Hp->VK->Prop:=fun x vs H Q=>∃ sep a zs,x = .str sep/\vs=[.ref a]/\SqL K H a (zs.map V.str)/\sep.length<=16/\(zs.map (·.length)).sum+zs.length<=1048576/\Q (.str (Txt.join sep zs)) H
theorem wJ:zJ X "str.join" (Aa X.K):=by
 intro pins s σ H x vs v us Q I rx rv h;obtain⟨sep,a,zs,rfl,rfl,hl,hs,hw,q⟩:=h;obtain⟨t,rfl⟩:=(show ∃ t,v=Value.str sep t from rx);obtain⟨u,rfl,ru⟩:=rv.one;cases ru;obtain⟨its,r,p,_⟩:=I.list hl;exact join_listW p.isList (by simpa using mX r) hs hw fun t' k=>⟨.str _,H,I.tok k,⟨t',rfl⟩,q⟩
end L2
namespace Dp
open PySem L2 Ex8
variable{K:Frag}{Jx:Hp->Prop}{f:Addr}{O O':List Addr}{H H':Hp}{X:Cx}{σ:St}{ss:SS}{a b c:Expr}{ta tb tc:TEd}{pos:Pos}
def B1:V->Option Value
 | .ref a=>some (.ref a) | .ty n=>some (.type n)|_=>none
theorem wZ{y:V}{c u:Value}(h:B1 y=some c)(r:RelV y u):u=c:=by
 cases y <;> first|(cases h;done)|skip
 ·cases h;exact r
 ·cases h;exact r
theorem BT:CallR X (.builtin "isinstance") (fun xs H Q=>∃ e C N cd d u y c b,xs=[.ref e,y]/\B1 y=some c/\H e=some (jW e C d u)/\(∀ dx,d=some dx->∃ fs,H dx=some (.xd fs))/\Xi X.K C N cd/\PySem.W.kitOne X.K (.ref C) c=some b/\Q (.bl b) H):=by
 intro pins s σ H xs us Q I rv h;obtain⟨e,C,N,cd,d,u,y,c,b,rfl,hc,he,hd,k,kb,q⟩:=h;obtain⟨u1,u2,rfl,r1,r2⟩:=rv.two;cases r1;rw [wZ hc r2];exact t7 I he hd k kb fun tk=>⟨.bl b,H,I.tok tk,rfl,q⟩
def gq(g:Addr->Option Bool)(t:TEd):TEd:=⟨fun ss Q=>t.run ss fun d=>∃ C x l b,d = .exn C x l/\g C=some b/\Q (.bl b),fun h q=>t.mono (fun d ⟨C,x,l,b,e,h1,q⟩=>⟨C,x,l,b,e,h1,h _ q⟩) q⟩
theorem gq.ok{g:Addr->Option Bool}{y:V}{cv:Value}{p:Pos}(hg:Gl X "isinstance")(hm:X.mg "isinstance" = none)(hy:PE X b (tC y))(hc:B1 y=some cv)(hk:∀ C k,g C=some k->∃ N cd,Xi X.K C N cd/\PySem.W.kitOne X.K (.ref C) cv=some k)
  (ha:PE X a (LE X.K Jx ta)) (hs:∀ es,starEach (a::es) X.env=(false,eval a X.env)::starEach es X.env) (hb:starEach [b] X.env=[(false,eval b X.env)]):PE X (.Call (.Name "isinstance" p) [a,b] [] pos) (LE X.K Jx (gq g ta)):=by
 refine (jt (p:=p) (pos:=pos) BT hg hm jq (jg ha (jg hy pa_nil hb) (hs _)) (by decide) (by decide) (hs _) (by rw [hb];rfl)).weak fun σ H Q ⟨f,O,ss,S,q⟩=>⟨f,O,ss,S,ta.mono (fun d q v H1 e r=>?_) q⟩;obtain⟨C,x,l,k,rfl,ek,q⟩:=q;obtain⟨a,us,rfl,xo,_⟩:=r;obtain⟨N,cd,k1,k2⟩:=hk C k ek;rcases xo with⟨_,u,h1⟩|⟨dx,u,y',_,h1,h2⟩
 ·exact⟨a,C,N,cd,none,u,y,cv,k,rfl,hc,h1,fun dx z=>(by cases z),k1,k2,q _ H1 e rfl⟩
 ·exact⟨a,C,N,cd,some dx,u,y,cv,k,rfl,hc,h1,fun dx' z=>(by cases z;exact⟨_,h2⟩),k1,k2,q _ H1 e rfl⟩
def hZ(x:Str)(ok:Addr->Bool)(t:TEd):TEd:=⟨fun ss Q=>t.run ss fun d=>∃ C d',d = .exn C x [d']/\ok C=true/\Q d',fun h q=>t.mono (fun d ⟨C,d',e,h1,q⟩=>⟨C,d',e,h1,h _ q⟩) q⟩
theorem hZ.ok{x:Str}{ok:Addr->Bool}(hk:∀ C,ok C=true->∃ N cd,Xc X.K C N cd/\kG X.K C x)(ha:PE X a (LE X.K Jx ta))(hb:attributeBase a x X.env (eval a X.env)=eval a X.env):PE X (.Attribute a x pos) (LE X.K Jx (hZ x ok ta)):=by
 refine (we (pos:=pos) ha hb).weak fun σ H Q ⟨f,O,ss,S,q⟩=>⟨f,O,ss,S,ta.mono (fun d q v H1 e r=>?_) q⟩;obtain⟨C,d',rfl,kC,q⟩:=q;obtain⟨N,cd,c,n⟩:=hk C kC;obtain⟨a,us,rfl,xo,rs⟩:=r;obtain⟨w,us',e1,r1,e2⟩:=rs;have e2:us'=[]:=e2;subst e2;subst e1;rcases xo with⟨z,_⟩|⟨dx,u,y',e3,h1,h2⟩
 ·cases z
 ·cases e3;exact⟨a,C,N,cd,dx,u,_,w,rfl,h1,h2,c,n,by simp [List.lookup],q w H1 e r1⟩
def Ci(K:Frag)(x:Str):Sp:=fun vs H Q _=>∃ e C N cd u y,vs=[.ref e,y]/\H e=some (jW e C none u)/\Xc K C N cd/\kG K C x/\∀ dx,H dx=none->dx≠e->Q .non (jr (jr H e (jW e C (some dx) u)) dx (.xd [(x,y)]))
structure XDef (P:Program)(w:World)(K:Frag)(mg:Str->Option Value)(base:Heap)(nm:Str)(k:Nat)(C:Addr)(x:Str):Prop where
 ex:∃ f fd ps N cd,FnOk P w K mg base pA k f fd ps (Ci K x)/\mg nm=some (.ref C)/\PySem.W.keepIn K (.ref C)=true/\Binds K fd ps []/\lA K C N=true/\PySem.W.findIn K (.ref C) "__init__" = some (some (.ref f))/\PySem.W.typeIn K (.ref f)=some (.type "function")/\Xc K C N cd/\kG K C x
def Ch(C:Addr)(x:Str):SpB:=⟨1,fun ds Q=>∃ d,ds=[d]/\Q (.exn C x [d]),fun h ⟨d,e,q⟩=>⟨d,e,h _ q⟩⟩
theorem uB{e:Expr}{es:List Expr}{t:TA}{nm x:Str}{p:Pos}{j k:Nat}{C:Addr}(g:XDef X.prog X.w X.K X.mg X.base nm j C x)(hr:Room k X.A)(ha:PA X (e::es) t)(hjk:j+1<=k)(hg:Gl X nm)
  (hdb:(nm == ("__debug__" : Str))=false) (he:starEach (e::es) X.env=(false,eval e X.env)::starEach es X.env) (hpl:(backTo pos (starEach es X.env)).any (·.1)=false):PE X (.Call (.Name nm p) (e::es) [] pos) (mC (mM X.K 1 (Ch C x).run) [] E0 t):=by
 obtain⟨f0,fd,ps,N,cd,F,hm,kp,hb,em,hi,hf,c,n⟩:=g.ex;intro pins s σ H Q I h;refine wpAny_Call_Name_kw (kN I hg hm ?_ hdb);refine PySem.W.callWith_K (h₀:=X.base) I.ok.mod.kin kp (jv (ha pos pins s σ H _ I h) fun us s1 ⟨vs,H1,I1,r,q⟩=>⟨I1.kIn,?_⟩) he hpl;obtain⟨hn,f,O,ds,fl,fO,al,lO,rr,d,rfl,q⟩:=q;rw [aD] at rr;obtain⟨v,vs',rfl,r1,e2⟩:=rr;have e2:vs'=[]:=e2;subst e2;refine nV em hi hf F (hr.mono hjk) hb .nil uH I1 r (show 1<=100 by decide) fun p0 u hp _=>⟨p0,C,N,cd,fx u,v,rfl,ji,c,n,fun dx hd ne=>⟨rfl,?_⟩⟩;rw [jh ne] at hd;rw [rL];have hd':jr H1 p0 (jW p0 C (some dx) (fx u)) dx=none:=by rw [jh ne];exact hd
 have ex1:Ex f H1 (jr H1 p0 (jW p0 C (some dx) (fx u))):=Ex.new fl hp _;have ex2:Ex f (jr H1 p0 (jW p0 C (some dx) (fx u))) (jr (jr H1 p0 (jW p0 C (some dx) (fx u))) dx (.xd [(x,v)])):=Ex.new ex1.fl hd' _;have ex:=ex1.trans ex2;refine q _ _ ex ⟨p0,[v],rfl,.inr ⟨dx,fx u,v,rfl,?_,ji⟩,v,[],rfl,r1.kp (ex.kp fO) al,rfl⟩;rw [jh (Ne.symm ne),ji]
def iY(C:Addr):TEd:=⟨fun _ Q=>Q (.exn C Str.empty []),fun h q=>h _ q⟩
theorem iY.ok{nm:Str}{p:Pos}{C N:Addr}(em:lA X.K C N=true)(hi:PySem.W.findIn X.K (.ref C) "__init__" = some (some (.builtin "ValueError.__init__")))(hk:PySem.W.keepIn X.K (.ref C)=true)(hg:Gl X nm)(hm:X.mg nm=some (.ref C))(hdb:(nm == ("__debug__" : Str))=false) :
  PE X (.Call (.Name nm p) [] [] pos) (LE X.K Jx (iY C)):=(sW em hi hk hg hm hdb).weak fun σ H Q ⟨f,O,ss,S,q⟩ p0 u hp =>
 q _ _ (S.new hp _) ⟨p0,[],rfl,.inl ⟨rfl,fx u,ji⟩,rfl⟩
def gC(sep:Str)(t:TEd):TEd:=⟨fun ss Q=>t.run ss fun d=>∃ zs:List Str,d = .lst (zs.map D.str)/\sep.length<=16/\(zs.map (·.length)).sum+zs.length<=1048576/\Q (.str (Txt.join sep zs)),fun h q=>t.mono (fun d ⟨zs,e,h1,h2,q⟩=>⟨zs,e,h1,h2,h _ q⟩) q⟩
theorem Rps.strsX:∀{zs:List Str} {vs:List V},Rps K f O H (zs.map D.str) vs->vs=zs.map V.str
 | [],_,h=>h
 | z::zs,_,h=>by
  obtain⟨v,r,e1,h1,h2⟩:=h;rw [e1,Rps.strsX h2,show v = .str z from h1];rfl
theorem gC.ok{sep:Str}{o:Expr}{ap cp:Pos}(ho:PE X o (tC (.str sep)))(ha:PE X a (LE X.K Jx ta))(hb:attributeBase o "join" X.env (eval o X.env)=eval o X.env)(hl:(ap.endLine == cp.line)=true)(hs:starEach [a] X.env=[(false,eval a X.env)]) :
  PE X (.Call (.Attribute o "join" ap) [a] [] cp) (LE X.K Jx (gC sep ta)):=by
 refine (pS (apos:=ap) (cpos:=cp) PySem.F.plainAttrs_str PySem.F.slot_str_join PySem.F.type_str_join wJ ho (jg ha pa_nil hs) hb (by rw [hs];rfl) hl hs rfl).weak fun σ H Q ⟨f,O,ss,S,q⟩=>?_;refine⟨rfl,f,O,ss,S,ta.mono (fun d q v H1 e r=>?_) q⟩;obtain⟨zs,rfl,h1,h2,q⟩:=q;obtain⟨a,xs,rfl,_,h3,r3⟩:=r;rw [Rps.strsX r3] at h3;exact⟨sep,a,zs,rfl,rfl,SqL.of h3,h1,h2,q _ H1 e rfl⟩
def ip(t:TEd):TEd:=⟨fun ss Q=>t.run ss fun d=>∃ i,d = .int i/\Q (.int ((Builtin.Int.intBits i:Nat):Int)),fun h q=>t.mono (fun d ⟨i,e,q⟩=>⟨i,e,h _ q⟩) q⟩
theorem ip.ok{ap cp:Pos}(ha:PE X a (LE X.K Jx ta))(hb:attributeBase a "bit_length" X.env (eval a X.env)=eval a X.env)(hl:(ap.endLine == cp.line)=true):PE X (.Call (.Attribute a "bit_length" ap) [] [] cp) (LE X.K Jx (ip ta)):=by
 refine (qN (apos:=ap) (cpos:=cp) PySem.F.plainAttrs_int PySem.F.slot_int_bit_length PySem.F.type_int_bit_length wK ha hb hl).weak fun σ H Q ⟨f,O,ss,S,q⟩=>?_;refine⟨f,O,ss,S,ta.mono (fun d q v H1 e r=>?_) q⟩;obtain⟨i,rfl,q⟩:=q;cases r;exact⟨rfl,i,rfl,rfl,q _ H1 e rfl⟩
end Dp
namespace Dp
open PySem L2
variable{K:Frag}{Jx:Hp->Prop}{f:Addr}{O O':List Addr}{H H':Hp}{X:Cx}{σ:St}{ss:SS}{a:Expr}{ta:TEd}{pos:Pos}
def yR(l:List D):List D:=(List.range (l.length / 2)).filterMap fun m=>l[1+m*2]?
theorem Rps.odds{ds:List D}{vs:List V}(r:Rps K f O H ds vs):∀ ms:List Nat,Rps K f O H (ms.filterMap fun m=>ds[1+m*2]?) (ms.filterMap fun m=>vs[1+m*2]?)
 | []=>.nil
 | m::ms=>by
  have ih:=Rps.odds r ms;rw [aL,aL];cases hx:ds[1+m*2]? with
  | none =>
   have:vs[1+m*2]? = none:=by
    have h1:=bD.mp hx;exact bD.mpr (by rw [r.len];exact h1)
   rw [this];exact ih
  | some x =>
   obtain⟨u,hu,ru⟩:=r.get hx;rw [hu];exact .cons ru ih
theorem Rps.odd{ds:List D}{vs:List V}(r:Rps K f O H ds vs):Rps K f O H (yR ds) (tf vs):=by
 unfold yR tf;rw [r.len];exact r.odds _
def iG(a:TEd):TEd:=⟨fun ss Q=>a.run ss fun d=>match d with | .tup l=>Q (.tup (yR l))|_=>False,fun {ss Q Q'} h q=>a.mono (fun d q=>by
 revert q;cases d <;> first|exact h _|exact id) q⟩
theorem iG.ok{j k:Nat}{p1 p2 p3:Pos}(ha:PE X a (LE X.K Jx ta)):PE X (.Subscript a (.Slice (some (.Constant (.int 1) j p1)) none (some (.Constant (.int 2) k p3)) p2) pos) (LE X.K Jx (iG ta)):=by
 refine (nX (pos:=pos) (p2:=p2) (BE X.K) ha (mQ (jj (j:=j) (pos:=p1))) po_none (mQ (jj (j:=k) (pos:=p3)))).weak fun σ H Q ⟨f,O,ss,S,q⟩=>?_;refine⟨f,O,ss,S,ta.mono (fun d q v H1 e1 r=>?_) q⟩;have S1:=S.ex e1;cases d <;> first|exact False.elim q|skip
 rename_i l;obtain⟨p,xs,rfl,h1,h2⟩:=r;exact⟨_,rfl,_,rfl,rfl,rfl,rfl,p,xs,rfl,h1,fun p hp=>q _ _ (e1.trans (S1.new hp _)) (S1.tup hp h2.odd)⟩
end Dp
set_option maxHeartbeats 1000000
namespace Dp
open PySem L2 Ex8
variable{K:Frag}{Jx:Hp->Prop}{f:Addr}{O O':List Addr}{H H':Hp}{X:Cx}{σ:St}{ss:SS}{a b c:Expr}{ta tb tc:TEd}{pos:Pos}
def fV(y:D)(v:V):Prop:=(∃ i,y = .int i/\v = .int i)\/∃ z,y = .str z/\v = .str z
theorem fV.rp{y:D}{v:V}(h:fV y v):Rp K f O H y v:=by
 rcases h with⟨i,rfl,rfl⟩|⟨z,rfl,rfl⟩ <;> rfl
def XR(H:Hp)(d:D)(cls:Value)(dx:Option Addr):Prop:=∃ C x,cls = .ref C/\((d = .exn C x []/\dx=none)\/∃ a y v,dx=some a/\d = .exn C x [y]/\fV y v/\H a=some (.xd [(x,v)]))
def pw(E:D->Prop)(EX:XK):Hp->Prop:=fun H=>∀ d cls dx,E d->XR H d cls dx->EX cls dx H
structure SpX where
 n:Nat
 run:List D->(D->Prop)->(D->Prop)->Prop
 mono:∀{ds Q Q' E E'},(∀ d,Q d->Q' d)->(∀ d,E d->E' d)->run ds Q E->run ds Q' E'
def SpX.of(n:Nat){α:Type}(pre:α->List D->Prop)(post exc:α->D->Prop):SpX:=⟨n,fun ds Q E=>∃ x,pre x ds/\(∀ d,post x d->Q d)/\∀ d,exc x d->E d,fun h g ⟨x,p,q,r⟩=>⟨x,p,fun d y=>h _ (q d y),fun d y=>g _ (r d y)⟩⟩
def SpX.at(s:SpX)(E:D->Prop):SpB:=⟨s.n,fun ds Q=>s.run ds Q E,fun h q=>s.mono h (fun _ q=>q) q⟩
def j6(K:Frag)(s:SpX):Sp:=fun vs H Q EX=>vs.length=s.n/\∃ f O ds,Fl H f/\f∈O/\(∀ a∈O,∃ xs,H a=some (.lst xs))/\(∀ l r,H f=some (.lst (.ref l::r))->l ∉ O)/\Rps K f O H ds vs /\
 s.run ds (fun d=>∀ v H',Ex f H H'->Rp K f O H' d v->Q v H') fun d=>∀ cls dx H',Ex f H H'->XR H' d cls dx->EX cls dx H'
structure DefX (P:Program)(w:World)(K:Frag)(mg:Str->Option Value)(base:Heap)(x:Str)(g:Addr)(k:Nat)(ps:List Str)(sp:Sp):Prop where
 ex:∃ fd,FnOk P w K mg base (rE P w) k g fd ps sp/\mg x=some (.ref g)/\PySem.W.keepIn K (.ref g)=true/\Binds K fd ps []
theorem dU.okX{e:Expr}{s:SpX}{t:TAd}{E:D->Prop}{EX:XK}(hJ:∀ H',Jx H'->pw E EX H')(h:PE X e (mC (j6 X.K s) [] EX (LA X.K Jx t))):PE X e (LE X.K Jx (dU (s.at E) t)):=h.weak fun σ H Q ⟨f,O,ss,S,q⟩ =>
 ⟨f,O,ss,S,t.mono (fun ds q vs H1 e1 r1=>by
  have S1:=S.ex e1;refine⟨by rw [aD,r1.len];exact q.1,f,O,ds,S1.fl,S1.fO,S1.al,S1.lO,by rw [aD];exact r1,?_⟩;exact s.mono (fun d q v H' e r=>q v H' (e1.trans e) r) (fun d hE cls dx H' e xr=>hJ H' (S1.j H' e) d cls dx hE xr) q.2) q⟩
theorem wf{x:Str}{g:Addr}{j k:Nat}{ps:List Str}{sp:Sp}{EX:XK}{e:Expr}{es:List Expr}{t:TA}{p:Pos}(d:DefX X.prog X.w X.K X.mg X.base x g j ps sp)(hr:Room k X.A)(hx:kF (rE X.prog X.w) X EX)(ha:PA X (e::es) t)(hjk:j<=k)(hg:Gl X x)
  (hdb:(x == ("__debug__" : Str))=false) (he:starEach (e::es) X.env=(false,eval e X.env)::starEach es X.env) (hpl:(backTo pos (starEach es X.env)).any (·.1)=false):PE X (.Call (.Name x p) (e::es) [] pos) (mC sp [] EX t):=by
 obtain⟨fd,F,hm,hk,hb⟩:=d.ex;exact rS F (hr.mono hjk) hg hm hk hb .nil hx ha hdb he hpl
theorem Cn{α:Type}{a:Addr}{v:α}:∀{l:List (Addr×α)},l.lookup a=some v->(a,v)∈l
 | [],h=>by cases h
 | (b,u)::l,h=>by
  rw [bp] at h;split at h
  ·rename_i e;cases h;rw [eq_of_beq e];exact ar
  ·exact aq _ (Cn h)
theorem DefX.plain{P:Program}{w:World}{mg:Str->Option Value}{base:Heap}{x:Str}{g:Addr}{k:Nat}{ps:List Str}{s:SpX}(d:DefX P w K mg base x g k ps (j6 K s)):Def P w K mg base x k ps (mM K (s.at fun _=>False).n (s.at fun _=>False).run):=by
 obtain⟨fd,F,hm,hk,hb⟩:=d.ex;have up:∀ vs H Q,mM K (s.at fun _=>False).n (s.at fun _=>False).run vs H Q E0->j6 K s vs H Q fun _ _ _=>False:=fun vs H Q ⟨hn,f,O,ds,fl,fO,al,lO,r,q⟩=>⟨hn,f,O,ds,fl,fO,al,lO,r,s.mono (fun _ q=>q) (fun _ z=>z.elim) q⟩;refine⟨g,fd,⟨fun vs H Q E h=>F.len vs H Q _ (up vs H Q h),fun A outer s0 H args us vs Q E hr he hb hv h=>?_⟩,hm,hk,hb⟩;refine codeAny_mono (F.run A outer s0 H args us vs Q _ hr he hb hv (up vs H Q h)) fun r s' q=>?_;cases r with
 | error e =>
  obtain⟨_,_,_,_,_,_,z⟩:=q;exact z
 | ok fl=>cases fl <;> exact q
theorem wX{x:Str}{v:V}{e dx C:Addr}{u:Array Value}{o:HO}(he:H e=none)(ne:dx≠e):del (jr (jr H e (jW e C (some dx) u)) dx o) e=jr H dx o:=by
 funext b;by_cases z:b=e
 ·subst z;rw [lS,jh (Ne.symm ne),he]
 ·rw [kB z];by_cases y:b=dx
  ·subst y;rw [ji,ji]
  ·rw [jh y,jh z,jh y]
def eO(E:D->Prop)(C:Addr)(x:Str)(t:TAd):TSd:=⟨fun _ ss=>t.run ss fun ds=>∃ y,ds=[y]/\((∃ i,y = .int i)\/∃ z,y = .str z)/\E (.exn C x [y]),fun _ q=>t.mono (fun _ q=>q) q⟩
def nJ(X:Cx)(EX:XK):Prop:=∀(pins:List (Addr×Obj)) (σ:St) (H1:Hp) (s1:Shared) (e C:Addr) (d:Option Addr) (u:Array Value),Inv X pins σ H1 s1->H1 e=some (jW e C d u)->u[1]? = some .none->X.s₀.heap.objs.size<=e->EX (.ref C) d (del H1 e)->X.xe (.ref e) s1
theorem eO.ok{E:D->Prop}{EX:XK}{nm x:Str}{p cp:Pos}{j k:Nat}{C:Addr}{t:TAd}(hJ:∀ H',Jx H'->pw E EX H')(hR:nJ X EX)(hc:X.calm=true)(g:XDef X.prog X.w X.K X.mg X.base nm j C x)(hr:Room k X.A)(hjk:j+1<=k)(hg:Gl X nm)(hdb:(nm == ("__debug__" : Str))=false)
  (ha:PA X [a] (LA X.K Jx t)) (he:starEach [a] X.env=[(false,eval a X.env)]):PS X (.Raise (some (.Call (.Name nm p) [a] [] cp)) none pos) (LS X.K Jx (eO E C x t)):=by
 obtain⟨f0,fd,ps,N,cd,F,hm,kp,hb,em,hi,hf,c,n⟩:=g.ex;intro pins s σ H D I ⟨c0,O,ss,R,q⟩;rw [arm_exec_Raise];refine wpAny_bind (wpAny_standAt ?_);refine xV em (I.ok.hd hc) ?_;refine wpAny_bind (wpAny_mono (Q:=fun v s₁=>∃ e d u,v = .ref e/\X.K.In s₁.heap/\s₁.heap.get? e=some { cls:=.ref C,dict:=d,data:=.fields u }/\u[1]? = some .none/\X.xe (.ref e) s₁) ?_ (fun v s1 q=>wpAny_bind (wpAny_standAt (wpAny_pure q))) fun _ _ q=>q);refine wpAny_Call_Name_kw (kN I hg hm ?_ hdb);have hA:=ha cp pins s σ H (fun vs H1=>∃ ds,SlD X.K Jx c0.f O σ H1 ss/\Rps X.K c0.f O H1 ds vs/\∃ y,ds=[y]/\((∃ i,y = .int i)\/∃ z,y = .str z)/\E (.exn C x [y])) I ⟨c0.f,O,ss,R.sl,t.mono (fun ds q vs H1 e1 r1=>⟨ds,R.sl.ex e1,r1,q⟩) q⟩;refine PySem.W.callWith_K (h₀:=X.base) I.ok.mod.kin kp (jv hA fun us s1 ⟨vs,H1,I1,r,ds,S1,rr,y,hy,fy,hE⟩=>⟨I1.kIn,?_⟩) he rfl;subst hy;obtain⟨v,vs',rfl,r1,e2⟩:=rr;have e2:vs'=[]:=e2;subst e2;have fv:fV y v:=by
  rcases fy with⟨i,rfl⟩|⟨z,rfl⟩
  ·exact .inl ⟨i,rfl,r1⟩
  ·exact .inr ⟨z,rfl,r1⟩
 refine wpAny_mono (nV (Q:=fun v' H2=>∃ e dx u,v' = .ref e/\H2=jr (jr H1 e (jW e C (some dx) (fx u))) dx (.xd [(x,v)])/\H1 e=none/\dx≠e/\H1 dx=none/\s1.heap.objs.size<=e) em hi hf F (hr.mono hjk) hb .nil uH I1 r (show 1<=100 by decide) fun p0 u hp hz=>⟨p0,C,N,cd,fx u,v,rfl,ji,c,n,fun dx hd ne=>⟨rfl,p0,dx,u,rfl,by rw [rL],hp,ne,by rw [jh ne] at hd;exact hd,hz⟩⟩) (fun v' s2 h2=>?_) fun _ _ q=>q;obtain⟨v2,H2,I2,rv,e,dx,u,rfl,rfl,h1,h2,h3,h4⟩:=h2;cases rv;have he2:jr (jr H1 e (jW e C (some dx) (fx u))) dx (.xd [(x,v)]) e=some (jW e C (some dx) (fx u)):=by rw [jh (Ne.symm h2),ji]
 refine⟨e,some dx,fx u,rfl,I2.kIn,kO I2.hok he2,rfl,hR pins σ _ s2 e C (some dx) (fx u) I2 he2 rfl (az I1.sz h4) ?_⟩;rw [wX (x:=x) (v:=v) h1 h2];exact hJ _ (S1.j _ (Ex.new S1.fl h3 _)) _ _ _ hE ⟨C,x,rfl,.inr ⟨dx,y,v,rfl,rfl,fv,ji⟩⟩
def e7:TSd:=⟨fun _ _=>False,fun _ q=>q⟩
theorem e7.oks{st:List Stmt}:PSs X st (LS X.K Jx e7):=fun _ _ _ _ _ _ ⟨_,_,_,_,q⟩=>q.elim
theorem e7.ok{st:Stmt}:PS X st (LS X.K Jx e7):=fun _ _ _ _ _ _ ⟨_,_,_,_,q⟩=>q.elim
theorem Sub.no{i:Nat}{o:Option V}:Sub σ ss (σ.set i o) (ss.set i .no):=fun j l h=>by
 by_cases z:i=j
 ·subst z;rw [ay] at h;rw [if_pos rfl] at h;split at h <;> cases h
 ·rw [au z] at h ⊢;exact⟨h,rfl⟩
def iH(tab:List (Addr×Nat×SpX))(m:Addr->Bool)(i j gi:Nat)(t:TAd):TSd:=⟨fun E ss=>∃ fa k s,ss[gi]? = some (.val (.fn fa))/\tab.lookup fa=some (k,s)/\t.run ss fun ds=>ds.length=s.n/\s.run ds E.rt fun d=>(∃ C x l,d = .exn C x l/\m C=true)/\E.nx ((ss.set i (.val d)).set j .no),
 fun h ⟨fa,k,s,h1,h2,q⟩=>⟨fa,k,s,h1,h2,t.mono (fun ds q=>⟨q.1,s.mono h.rt (fun d q=>⟨q.1,h.nx _ q.2⟩) q.2⟩) q⟩⟩
theorem iH.ok{tab:List (Addr×Nat×SpX)}{m:Addr->Bool}{st:Stmt}{i j gi k:Nat}{Nc:Addr}{t:TAd}(h:PS X st (zP X Nc i j gi (LA X.K Jx t)))(hm:∀ C,m C=true->PySem.W.exmOne X.K (.ref C) (.ref Nc)=some true)
  (ht:∀ fa j s,(fa,j,s)∈tab->j<=k/\∃ x ps,DefX X.prog X.w X.K X.mg X.base x fa j ps (j6 X.K s)) (hr:Room k X.A) (lk:∀ fa v,tab.lookup fa=some v->(fa,v)∈tab):PS X st (LS X.K Jx (iH tab m i j gi t)):=h.weak fun D σ H ⟨c,O,ss,R,fa,k',s,hfa,htab,q⟩=>by
 obtain⟨hk,x,ps,fd,F,_,hkp,hb⟩:=ht fa k' s (lk _ _ htab);obtain⟨v,hv,rv⟩:=R.sl.val gi _ hfa;cases (show v=_ from rv);refine⟨fa,k',fd,ps,j6 X.K s,hv,F,hb,hkp,hr.mono hk,c.f,O,ss,R.sl,t.mono (fun ds q vs H1 e1 r1=>?_) q⟩;have R1:=R.ex e1;refine⟨r1.len.trans q.1,c.f,O,ds,R1.sl.fl,R1.sl.fO,R1.sl.al,R1.sl.lO,r1,s.mono (fun d q v H' e r=>q v H' ((R1.ex e).rt r)) (fun d q cls dx H' e xr=>?_) q.2⟩;obtain⟨⟨C,z,l,rfl,hC⟩,hn⟩:=q;obtain⟨C',x',rfl,xr⟩:=xr;have eC:C'=C:=by
  rcases xr with⟨e,_⟩|⟨_,_,_,_,e,_⟩ <;> (injection e with e;exact e.symm)
 subst eC;refine⟨C',rfl,hm _ hC,fun e0 u h0=>?_⟩;have R2:=R1.ex e;have R3:=R2.ex (Ex.new R2.sl.fl h0 (jW e0 C' dx u));have rp:Rp X.K c.f O (jr H' e0 (jW e0 C' dx u)) (.exn C' z l) (.ref e0):=by
  rcases xr with⟨e,rfl⟩|⟨a,y,v,rfl,e,fv,hx⟩
  ·injection e with _ e1 e2;subst e2;exact⟨e0,[],rfl,.inl ⟨rfl,u,ji⟩,rfl⟩
  ·injection e with _ e1 e2;subst e1 e2;have na:a≠e0:=jo hx h0;exact⟨e0,[v],rfl,.inr ⟨a,u,v,rfl,ji,by rw [jh na];exact hx⟩,v,[],rfl,fv.rp,rfl⟩
 have R4:=R3.to (R3.sl.set (i:=i) rp) Sub.set;exact hn O _ _ (R4.to (R4.sl.blank (i:=j) (o:=none)) Sub.no)
def sE(n:Nat)(t:(D->Prop)->TSd)(s:SpX):Prop:=∀ ds Q E,ds.length=s.n->s.run ds Q E->(t E).run (jA Q) (startD n ds)
end Dp
namespace Dp
open PySem L2
variable{K:Frag}{Jx:Hp->Prop}{f:Addr}{O O':List Addr}{H H':Hp}{X:Cx}{σ:St}{ss:SS}{a b:Expr}{ta tb:TEd}{pos:Pos}
inductive MK where
 | starts|part|split
def MK.nm:MK->Str
 | .starts => "startswith" | .part => "partition" | .split => "split"
def metD(k:MK)(x:Str)(e:D)(Q:D->Prop):Prop:=∃ y,e = .str y/\match k with
 | .starts=>Q (.bl (Txt.startswith x y))
 | .part=>x.length<=sizeLine/\(y.length == 0)=false/\Q (.tup [.str (Txt.partition x y).1,.str (Txt.partition x y).2.1,.str (Txt.partition x y).2.2])
 | .split=>x.length+2<=sizeLine/\(y.length == 0)=false/\Q (.lst ((Txt.split x y).map .str))
theorem metD.mono{k:MK}{x:Str}{e:D}{Q Q':D->Prop}(h:∀ d,Q d->Q' d):metD k x e Q->metD k x e Q':=fun⟨y,e2,q⟩=>⟨y,e2,by
 cases k
 ·exact h _ q
 ·exact⟨q.1,q.2.1,h _ q.2.2⟩
 ·exact⟨q.1,q.2.1,h _ q.2.2⟩⟩
def ia(k:MK)(t u:TEd):TEd:=⟨fun ss Q=>t.run ss fun d=>∃ x,d = .str x/\u.run ss fun e=>metD k x e Q,fun h q=>t.mono (fun d ⟨x,e,q⟩=>⟨x,e,u.mono (fun e q=>metD.mono h q) q⟩) q⟩
theorem Rps.str:∀(zs:List Str),Rps K f O H (zs.map D.str) (zs.map V.str)
 | []=>rfl
 | z::zs=>⟨_,_,rfl,rfl,Rps.str zs⟩
theorem ia.ok{k:MK}{ap cp:Pos}(ha:PE X a (LE X.K Jx ta))(hu:PE X b (LE X.K Jx tb))(hb:attributeBase a k.nm X.env (eval a X.env)=eval a X.env)(hl:(ap.endLine == cp.line)=true)(hs:starEach [b] X.env=[(false,eval b X.env)]):PE X (.Call (.Attribute a k.nm ap) [b] [] cp) (LE X.K Jx (ia k ta tb)):=by
 cases k
 ·refine (pS (apos:=ap) (cpos:=cp) PySem.F.plainAttrs_str PySem.F.slot_str_startswith PySem.F.type_str_startswith tx ha (jg hu pa_nil hs) hb (by rw [hs];rfl) hl hs rfl).weak fun σ H Q ⟨f,O,ss,S,q⟩=>⟨f,O,ss,S,ta.mono (fun d q v H1 e r=>?_) q⟩;have S1:=S.ex e;obtain⟨x,rfl,q⟩:=q;cases r;refine⟨rfl,f,O,ss,S1,tb.mono (fun d q v H2 e2 r2=>?_) q⟩;obtain⟨y,rfl,q⟩:=q;cases r2;exact⟨x,y,rfl,rfl,q _ H2 (e.trans e2) rfl⟩
 ·refine (pS (apos:=ap) (cpos:=cp) PySem.F.plainAttrs_str PySem.F.slot_str_partition PySem.F.type_str_partition oQ ha (jg hu pa_nil hs) hb (by rw [hs];rfl) hl hs rfl).weak fun σ H Q ⟨f,O,ss,S,q⟩=>⟨f,O,ss,S,ta.mono (fun d q v H1 e r=>?_) q⟩;have S1:=S.ex e;obtain⟨x,rfl,q⟩:=q;cases r;refine⟨rfl,f,O,ss,S1,tb.mono (fun d q v H2 e2 r2=>?_) q⟩;have S2:=S1.ex e2;obtain⟨y,rfl,h1,h2,q⟩:=q;cases r2;exact⟨x,y,rfl,rfl,h1,h2,fun p hp=>q _ _ (e.trans (e2.trans (S2.new hp _))) (S2.tup hp ⟨_,_,rfl,rfl,_,_,rfl,rfl,_,_,rfl,rfl,rfl⟩)⟩
 ·refine (pS (apos:=ap) (cpos:=cp) PySem.F.plainAttrs_str PySem.F.slot_str_split PySem.F.type_str_split uZ ha (jg hu pa_nil hs) hb (by rw [hs];rfl) hl hs rfl).weak fun σ H Q ⟨f,O,ss,S,q⟩=>⟨f,O,ss,S,ta.mono (fun d q v H1 e r=>?_) q⟩;have S1:=S.ex e;obtain⟨x,rfl,q⟩:=q;cases r;refine⟨rfl,f,O,ss,S1,tb.mono (fun d q v H2 e2 r2=>?_) q⟩;have S2:=S1.ex e2;obtain⟨y,rfl,h1,h2,q⟩:=q;cases r2;exact⟨x,y,rfl,rfl,h1,h2,fun p hp=>q _ _ (e.trans (e2.trans (S2.new hp _))) (S2.lst hp (Rps.str _))⟩
theorem BS:CallR X (.builtin "isinstance") (fun xs H Q=>∃ e C N cd d u tp as b,xs=[.ref e,.ref tp]/\H tp=some (.tup (List.map V.ref as))/\H e=some (jW e C d u)/\(∀ dx,d=some dx->∃ fs,H dx=some (.xd fs))/\Xi X.K C N cd/\PySem.W.kitAny X.K (.ref C) (as.map Value.ref)=some b/\Q (.bl b) H):=by
 intro pins s σ H xs us Q I rv h;obtain⟨e,C,N,cd,d,u,tp,as,b,rfl,ht,he,hd,k,kb,q⟩:=h;obtain⟨u1,u2,rfl,r1,r2⟩:=rv.two;cases r1;cases r2;obtain⟨its,r,p,_⟩:=I.tuple (SqT.of ht);have ei:∀{as:List Addr} {its:List Value},Vals (as.map V.ref) its->its=as.map Value.ref:=by
  intro as;induction as with
  | nil=>intro its r;cases r;rfl
  | cons a as ih =>
   intro its r;cases r with
   | cons r1 r2=>rw [ih r2,aY];cases r1;rfl
 cases ei r;obtain⟨⟨cls,dd,data,sl⟩,ho,hc,n,hdt⟩:=p;cases hc;cases hdt;have g:=kO I.hok he;refine PySem.W.kia_tup (Ex8.p9 k.toXc k.ha k.hn k.htk) I.kIn ?_ ho kb (fun z=>nomatch z) fun tk=>⟨.bl b,H,I.tok tk,rfl,q⟩;cases d with
 | none=>exact⟨_,none,g,rfl,rfl,trivial⟩
 | some dx =>
  obtain⟨fs,hd⟩:=hd dx rfl;obtain⟨mA,⟨o,_,_,ho,_⟩,_⟩:=(show ObjOk X.prog X.w H s.heap dx (.xd fs) from I.hok dx _ hd);exact⟨_,some o,g,rfl,rfl,ho⟩
def xu(as:List Addr):TA:=fun _ H Q=>Q (as.map V.ref) H
theorem jc.ok{g:Addr->Option Bool}{as:List Addr}{es:List Expr}{k:Nat}{p p2:Pos}(hg:Gl X "isinstance")(hm:X.mg "isinstance" = none)(hy:PA X es (xu as))(hl:as.length<=100)(hk:∀ C k,g C=some k->∃ N cd,Xi X.K C N cd/\PySem.W.kitAny X.K (.ref C) (as.map Value.ref)=some k)
  (ha:PE X a (LE X.K Jx ta)) (hs:∀ es,starEach (a::es) X.env=(false,eval a X.env)::starEach es X.env):PE X (.Call (.Name "isinstance" p) [a,.Tuple es k p2] [] pos) (LE X.K Jx (gq g ta)):=by
 refine (jt (p:=p) (pos:=pos) BS hg hm jq (jg ha (jg (qK (pos:=p2) (x1:=k) hy) pa_nil rfl) (hs _)) (by decide) (by decide) (hs _) rfl).weak fun σ H Q ⟨f,O,ss,S,q⟩=>⟨f,O,ss,S,ta.mono (fun d q v H1 e r=>?_) q⟩;have S1:=S.ex e;obtain⟨C,x,l,k,rfl,ek,q⟩:=q;obtain⟨a0,us,rfl,xo,_⟩:=r;obtain⟨N,cd,k1,k2⟩:=hk C k ek;refine⟨by rw [aH,sizeLine_eq];(first|lia|omega),fun p0 hp=>?_⟩;have nn:∀{b:Addr} {o:HO},H1 b=some o->jr H1 p0 (.tup (as.map V.ref)) b=some o:=fun {b o} h=>by rw [jh (jo h hp)];exact h
 have e2:=S1.new hp (.tup (as.map V.ref));rcases xo with⟨_,u,h1⟩|⟨dx,u,y',_,h1,h2⟩
 ·exact⟨a0,C,N,cd,none,u,p0,as,k,rfl,ji,nn h1,fun dx z=>(by cases z),k1,k2,q _ _ (e.trans e2) rfl⟩
 ·exact⟨a0,C,N,cd,some dx,u,p0,as,k,rfl,ji,nn h1,fun dx' z=>(by cases z;exact⟨_,nn h2⟩),k1,k2,q _ _ (e.trans e2) rfl⟩
end Dp
namespace L2
open PySem PySem.Spec PyProof.Rows
section
variable{prog:Program}{w:World}{A:Around}{E:Value->Shared->Prop}{s:Shared}
theorem wM{h:Heap}{a:Addr}{o:Obj}(e:h.get? a=some o):a<h.objs.size:=by
 rcases bR a h.objs.size with z|z
 ·exact z
 ·rw [Ex8.sK z] at e;cases e
theorem ve:typeLookup (Value.type "list_reverseiterator") (Str.ofString "__length_hint__")=pure (some (.builtin "list_reverseiterator.__length_hint__")):=by kernel_rfl
theorem tj:typeLookup (Value.type "list_reverseiterator") (Str.ofString "__len__")=pure none:=by kernel_rfl
theorem qo{I l:Addr}{items:Array Value}{Q:List Value->Shared->Prop}(hh:A.handled=none)(ne:l≠I)(hr:s.heap.IsRevIter I l ((items.size:Int)-1))(hl:s.heap.IsList l items)(hn:items.size<=sizeLine)
  (h:∀(s':Shared) (acc:Array Value),Moved [I] (fun a b=>b=a) s s'->ItemsOf (fun i v=>items[items.size-1-i]? = some v) acc items.size->Q acc.toList s'):wpAny (model prog w) A (collect (.ref I)) Q E s:=by
 have hI:I<s.heap.objs.size:=by
  obtain⟨o,h1,_⟩:=hr;exact (wM h1)
 have hL:l<s.heap.objs.size:=by
  obtain⟨o,h1,_⟩:=hl;exact (wM h1)
 unfold collect;refine wpAny_bind (wpAny_runValue (codeAny_builtin F.entry_proto_collect ?_));rw [Around.under_plainId F.plain_proto_collect _];unfold Builtin.«proto.collect»;dsimp only;unfold newList;refine wpAny_bind (wpAny_newObj_type ?_);refine wpAny_pure ⟨plainId_quiet F.plain_list_iadd _,codeAny_builtin F.entry_list_iadd ?_⟩;rw [Around.under_plainId F.plain_list_iadd _];have e0:∀{b:Addr} {o:Obj},s.heap.get? b=some o->(s.heap.push { cls:=.type "list",data:=.seq #[] }).get? b=some o:=fun {b o} e=>Heap.get?_push_of_some _ e;obtain⟨o,h1,h2,h3⟩:=hr;have hT:({ s with heap:=s.heap.push { cls:=.type "list",data:=.seq #[] } }:Shared).TypeIs (.ref I) "list_reverseiterator" := ⟨o,e0 h1,h2⟩;unfold Builtin.«list.__iadd__»;refine wpAny_bind (wpAny_of_eq (a:=(Value.ref s.heap.objs.size,[Value.ref I])) (by first|rfl|kernel_rfl) ?_);dsimp only;unfold Builtin.List.listExtendWith;refine wpAny_bind (wpAny_typeOf hT ?_);have hne:(s.heap.objs.size == I)=false:=by
  rw [beq_eq_false_iff_ne];exact fun z=>absurd hI (by rw [← z];exact aM _)
 rw [if_neg (show ¬ (Builtin.List.listSameRef (Value.ref s.heap.objs.size) (Value.ref I) || Value.type "list_reverseiterator" == Value.type "list" || Value.type "list_reverseiterator" == Value.type "tuple")=true by
  show ¬ (((s.heap.objs.size == I) || false || false)=true);rw [hne];decide)]
 have st:(s.heap.push { cls:=.type "list",data:=.seq #[] }).IsRevIter I l ((items.size:Int)-1):=⟨o,e0 h1,h2,h3⟩;refine wpAny_bind (wpAny_pyIter_revIter st ?_);refine wpAny_bind (wpAny_holding ?_);unfold Builtin.List.listLengthHint;refine wpAny_bind (wpAny_specialOf hT tj ?_);dsimp only;rw [if_neg (show ¬ ((none:Option Value).isSome=true) from ao)];refine wpAny_bind (wpAny_specialOf hT ve ?_);dsimp only;rw [show splitId "list_reverseiterator.__length_hint__" = some ("list_reverseiterator", "__length_hint__") by kernel_rfl];dsimp only;refine wpAny_bind (wpAny_isInstance hT (b:=true) (by rw [isSubtype_type];kernel_rfl) ?_);rw [if_neg (show ¬ ((!true)=true) from ao)];refine wpAny_of_eq (a:=false) ?_ ?_
 ·first|rfl|kernel_rfl
 split
 ·rename_i z;exact absurd z (by decide +kernel)
 refine wpAny_pure ⟨plainId_quiet F.plain_extend_loop _,?_⟩;refine codeAny_extend_loopS (Walks.toS (Walks.listRev (A:=A.in1) hh I l ne items)) hn s.heap.objs.size ?_ _ items.size 0 _ #[] 0 rfl (bq _) ?_ (Heap.get?_push_size _ rfl) ?_ ?_
 ·intro z;rcases ai.mp z with z|z
  ·exact absurd hI (by rw [← z];exact aM _)
  ·exact absurd hL (by rw [← am.mp z];exact aM _)
 ·refine⟨bq _,?_,?_⟩
  ·simpa using st
  ·obtain⟨o,g1,g2⟩:=hl;exact⟨o,e0 g1,g2⟩
 ·exact⟨rfl,fun j v z=>by simp at z⟩
 ·intro s' acc c M hg it;refine wpAny_bind (wpAny_load hg (wpAny_pure (h s' acc ⟨fun b o hb e=>M.heap b o ?_ (e0 e),M.gens,M.drawn,M.os,M.toks⟩ it)));intro z;rcases ai.mp z with z|z
  ·rw [z] at e;exact absurd (wM e) (aM _)
  ·exact hb z
theorem rN:∀{zs:List Str} {us:List Value},Vals (zs.map V.str) us->∃ l:List (Str×Tok),us=strValues l/\l.map (·.1)=zs
 | [],_,.nil=>⟨[],rfl,rfl⟩
 | z::zs,_,.cons r t=>by
  obtain⟨tk,rfl⟩:=(show ∃ t,_=Value.str z t from r);obtain⟨l,rfl,e⟩:=rN t;exact⟨(z,tk)::l,rfl,by rw [aY,e]⟩
theorem tH{its:List Value}{acc:Array Value}(h:ItemsOf (fun i v=>its.toArray[its.toArray.size-1-i]? = some v) acc its.toArray.size):acc.toList=its.reverse:=by
 obtain⟨h0,h2⟩:=h;have h1:acc.size=its.length:=h0.trans af;clear h0;apply dI;intro j;rw [cr];by_cases hj:j<its.length
 ·have:=h2 j _ (cV (by first|lia|omega));rw [af,cw] at this;rw [cV (by first|lia|omega),bz hj,this]
 ·rw [Array.getElem?_eq_none (by first|lia|omega),df (by rw [bd];(first|lia|omega))]
theorem nh(sep:Str)(t:Tok)(I l:Addr)(its:List Value):Meets (Builtin.«str.join» ⟨[.str sep t,.ref I],[]⟩) fun A R s=>A.handled=none/\l≠I/\s.heap.IsRevIter I l ((its.toArray.size:Int)-1)/\s.heap.IsList l its.toArray/\its.toArray.size<=sizeLine/\∃ L:List (Str×Tok),its.reverse=strValues L/\JoinOk sep (L.map (·.1))=true /\
  ∀ s':Shared,Moved [I] (fun a b=>b=a) s s'->∀(t':Tok) (k:Nat),R (.ok (.ret (.str (Txt.join sep (L.map (·.1))) t'))) { s' with toks:=k }:=by
 intro prog w A R s ⟨hh,ne,hr,hl,hn,L,eL,ok,h⟩;rw [join_tree_other];obtain⟨o,h1,h2,h3⟩:=id hr;refine wpAny_bind (wpAny_typeOf ⟨o,h1,h2⟩ ?_);rw [if_neg (by decide)];refine wpAny_bind (wpAny_tryCatch (wpAny_pyIter_revIter hr ?_));refine wpAny_bind (qo (A:=A.in1) hh ne hr hl hn fun s' acc M it=>?_);rw [tH it,eL];have ok':Builtin.Str.tooLong (Array.foldl (fun x1 x2=>x1+x2.length+sep.length) 0 (L.map (·.1)).toArray)=false:=by
  have:=ok;unfold JoinOk at this;simpa using this
 refine gives_joinTail sep L ok' prog w A R s' ?_;have pj:=post_join (s:=s') (sep:=sep) (Q:=fun v s'=>R (.ok (.ret v)) s') L ⟨joinFit_length ok',fun t' k=>h s' M t' k⟩;cases L with
 | nil=>exact pj
 | cons a r=>cases r <;> exact pj
end
variable{X:Cx}
def CI(K:Frag)(sep:Str)(ta:TA):TE:=fun σ H Q=>ta σ H fun vs H1=>∃(l:Addr) (zs:List Str),vs=[.ref l]/\SqL K H1 l (zs.map V.str)/\sep.length<=16/\(zs.map (·.length)).sum+zs.length<=1048576/\Q (.str (Txt.join sep zs.reverse)) H1
theorem An{sep:Str}{o a:Expr}{ta:TA}{ap cp p p2:Pos}(ho:PE X o (tC (.str sep)))(hg:Gl X "reversed")(hm:X.mg "reversed" = none)(ha:PA X [a] ta)(hc:X.calm=true)(hb:attributeBase o "join" X.env (eval o X.env)=eval o X.env)(hl:(ap.endLine == cp.line)=true)(hs:starEach [a] X.env=[(false,eval a X.env)]) :
  PE X (.Call (.Attribute o "join" ap) [.Call (.Name "reversed" p) [a] [] p2] [] cp) (CI X.K sep ta):=by
 intro pins s σ H Q I h;have hs1:starEach [.Call (.Name "reversed" p) [a] [] p2] X.env=[(false,eval (.Call (.Name "reversed" p) [a] [] p2) X.env)]:=rfl;refine wpAny_Call_method_late hb (by rw [hs1];rfl) hl rfl (jv (ho pins s σ H (fun x H1=>x = .str sep/\H1=H) I ?_) fun v s1 ⟨x,H1,I1,r1,e1,e2⟩=>?_)
 ·exact⟨rfl,rfl⟩
 subst e1 e2;obtain⟨t,rfl⟩:=(show ∃ t,v=Value.str sep t from r1);refine⟨"str", "str.join",PySem.F.plainAttrs_str,PySem.F.slot_str_join,PySem.F.type_str_join,typeIs_str _ _ _,?_,?_⟩
 ·exact fun _ e=>nomatch e
 rw [hs1];refine Calls.callWith_builtin rfl (Calls.evalArgs_plain ?_);refine Calls.spliced_cons ?_;show wpAny _ _ (eval (.Call (.Name "reversed" p) [a] [] p2) X.env) _ _ s1;refine Call_ (kA I1 hg hm boot_reversed (PyProof.Rows.callWith_type1 (jv (ha p2 pins s1 σ H1 _ I1 h) fun us s2 ⟨vs,H2,I2,r2,l,zs,e,hq,q1,q2,q3⟩=>?_) hs rfl));subst e;obtain⟨u,rfl,ru⟩:=Vals.one r2;cases ru;obtain⟨its,rv,pl,hz⟩:=I2.list hq;refine call_reversed_list pl.isList ?_;refine Calls.spliced_nil ?_;have I3:Inv X pins σ H2 { s2 with heap:=s2.heap.push (revObj l ((its.toArray.size:Int)-1)) }:=I2.kept (t':=s2.toks) fun b o e=>Heap.get?_push_of_some _ e;have F:kH X pins H2 s2.heap.objs.size:=I2.fpOk (aj _) (I2.hok.fresh (aj _));obtain⟨f0,f1,f2,f3,f4,f5⟩:=F;have ne:l≠s2.heap.objs.size:=by
  obtain⟨ob,g1,_⟩:=pl.isList;exact aA (wM g1)
 obtain⟨L,eL,mL⟩:=rN rv;have eR:its.reverse=strValues L.reverse:=by rw [eL];exact (cK ..).symm
 have mR:L.reverse.map (·.1)=zs.reverse:=by rw [cK,mL]
 have hlen:=rv.length;rw [aH] at hlen;refine call_meets F.slot_str_join (typeIs_str _ _ _) F.entry_str_join (F.args_str_join_2 _ _) (nh sep t s2.heap.objs.size l its) ?_;refine⟨I3.ok.hd hc,ne,⟨_,Heap.get?_push_size _ rfl,rfl,rfl⟩,?_,?_,L.reverse,eR,?_,fun s' M t' k=>?_⟩
 ·obtain⟨ob,g1,g2⟩:=pl.isList;exact⟨ob,Heap.get?_push_of_some _ g1,g2⟩
 ·rw [af,sizeLine_eq]
  (first|lia|omega)
 ·rw [mR];refine joinOk_of_weight ?_ q1;rw [cK,List.sum_reverse,bd];exact q2
 ·rw [mR];obtain⟨m1,m2,m3,m4,m5⟩:=M;cases s';cases m2;cases m3;cases m4;exact⟨.str _,H2,I3.turned (t':=k) (fun b o hb e=>m1 b o (by simpa using hb) e) f0 f1 f3 f4 f5,⟨t',rfl⟩,q3⟩
end L2
namespace Dp
open PySem L2
variable{Jx:Hp->Prop}{X:Cx}{a:Expr}{ta:TEd}
def ge(sep:Str)(t:TEd):TEd:=⟨fun ss Q=>t.run ss fun d=>∃ zs:List Str,d = .lst (zs.map D.str)/\sep.length<=16/\(zs.map (·.length)).sum+zs.length<=1048576/\Q (.str (Txt.join sep zs.reverse)),fun h q=>t.mono (fun d ⟨zs,e,h1,h2,q⟩=>⟨zs,e,h1,h2,h _ q⟩) q⟩
theorem ge.ok{sep:Str}{o:Expr}{ap cp p p2:Pos}(ho:PE X o (tC (.str sep)))(hg:Gl X "reversed")(hm:X.mg "reversed" = none)(hc:X.calm=true)(ha:PE X a (LE X.K Jx ta))(hb:attributeBase o "join" X.env (eval o X.env)=eval o X.env)(hl:(ap.endLine == cp.line)=true)(hs:starEach [a] X.env=[(false,eval a X.env)]) :
  PE X (.Call (.Attribute o "join" ap) [.Call (.Name "reversed" p) [a] [] p2] [] cp) (LE X.K Jx (ge sep ta)):=by
 refine (An ho hg hm (jg ha pa_nil hs) hc hb hl hs).weak fun σ H Q ⟨f,O,ss,S,q⟩=>?_;refine⟨f,O,ss,S,ta.mono (fun d q v H1 e r=>?_) q⟩;obtain⟨zs,rfl,h1,h2,q⟩:=q;obtain⟨a,xs,rfl,_,h3,r3⟩:=r;rw [Rps.strsX r3] at h3;exact⟨a,zs,rfl,SqL.of h3,h1,h2,q _ H1 e rfl⟩
end Dp
namespace Dp
open PySem L2
variable{K:Frag}{Jx:Hp->Prop}{f:Addr}{O O':List Addr}{H H':Hp}{X:Cx}{σ:St}{ss:SS}{a b:Expr}{ta tb tc:TEd}{tA tB:TTd}{pos:Pos}{c:Cs}
variable{T:Tc}
def jx:Expr->Bool
 | .Starred .. => false | .Slice .. => false | .Set .. => false | .SetComp .. => false | .DictComp .. => false
 | _=>true
abbrev FE:=Expr->Option TEd
def yU(m:Str):Option MK:=if m = "startswith" then some .starts else if m = "partition" then some .part else if m = "split" then some .split else none
def u5(E:FE)(m:Str)(ap cp:Pos)(as:List Expr)(ks:List Keyword)(o:Expr):Option TEd:=match as with
 | [b]=>(yU m).bind fun k=>if ks.isEmpty && (ap.endLine == cp.line) && jx b then (E o).bind fun t=>(E b).map (ia k t) else none
 | _=>none
end Dp
namespace Dp
open PySem L2
variable{K:Frag}{Jx:Hp->Prop}{X:Cx}{T:Tc}{pos p p2:Pos}{a b e:Expr}{E:FE}{F:FT}
theorem _root_.L2.PTs.weak{es:List Expr}{t t':TT}(h:PTs X es t)(w:∀ σ H Q,t' σ H Q->t σ H Q):PTs X es t':=fun pins s σ H Q I q=>h pins s σ H Q I (w σ H Q q)
end Dp
namespace Dp
open PySem L2
variable{P:Program}{w:World}{K:Frag}{Jx:Hp->Prop}{mg:Str->Option Value}{base:Heap}
def lZ(K:Frag):Sp:=fun vs H Q _=>∃(a:Addr) (ns:List Int),vs=[.ref a]/\SqL K H a (ns.map V.int)/\ns.length<=63/\∀ f H',Same H H'->Fl H' f->H f=none->Q (.ref f) H'
def oC:Sp:=fun vs H Q _=>∃(f:Addr) (m:Int),vs=[.ref f,.int m]/\Fl H f/\0<m/\Lt2 9000 m/\∀ d H',0<=d->d<m->Fl H' f->Sm f H H'->Q (.int d) H'
def pM(K:Frag):Sp:=fun vs H Q _=>∃(a:Addr) (ns:List Int),vs=[.ref a]/\SqL K H a (ns.map V.int)/\ns.length<=63/\∀ H',Q (.bl true) H'
def dR:SpB:=.of 2 (α:=Int) (fun m ds=>ds=[.fl,.int m]/\0<m/\Lt2 9000 m) (fun m d=>∃ i,d = .int i/\0<=i/\i<m)
theorem sU{k:Nat}{ps:List Str}(g:Def P w K mg base "_law_pick" k ps oC):Def P w K mg base "_law_pick" k ps (mM K dR.n dR.run):=by
 obtain⟨f,fd,F,r⟩:=g.ex;refine⟨f,fd,F.imp (fun vs H Q E h=>?_),r⟩;obtain⟨hn,f,O,ds,fl,fO,al,lO,rp,m,⟨rfl,m0,m1⟩,q⟩:=h;obtain⟨v,v',rfl,e1,e2⟩:=Rps.two rp;cases (show v=_ from e1);cases (show v'=_ from e2);exact⟨f,m,rfl,fl,m0,m1,fun d H' d0 d1 fl' sm=>q (.int d) ⟨d,rfl,d0,d1⟩ _ H' ⟨sm,fl'⟩ rfl⟩
end Dp
namespace Dp
open PySem L2
def fD(t b:Int):D:=.tup [.int t,.int b]
theorem xx:2<=sizeLine:=by rw [sizeLine_eq];decide
theorem CN:0<=sizeLine:=bq _
theorem ko{n:Nat}(h:n<=16777216):n<=sizeLine:=by rw [sizeLine_eq];exact h
theorem zc{c:Bool}{A B:Prop}(h1:c=true->A)(h2:c=false->B):if c=true then A else B:=by
 cases c
 ·exact h2 rfl
 ·exact h1 rfl
theorem oZ{p:Prop}[Decidable p]{A B:Prop}(h1:p->A)(h2:¬ p->B):if decide p=true then A else B:=by
 by_cases c:p
 ·rw [if_pos (decide_eq_true c)];exact h1 c
 ·rw [if_neg (by simpa using c)];exact h2 c
theorem zI{p:Prop}[Decidable p]{A B:Prop}(h1:¬ p->A)(h2:p->B):if (!decide p)=true then A else B:=by
 by_cases c:p
 ·rw [if_neg (by simpa using c)];exact h2 c
 ·rw [if_pos (by simpa using c)];exact h1 c
theorem lN{l:List D}{n:Nat}{d:D}{Q:D->Prop}(h:l[n]? = some d)(q:Q d):itD l (n:Int) Q:=by
 unfold itD;rw [kQ h];exact q
def gD:TSd:=(dSq (eB (dZ (d7 .NotEq (dQ 1) (dC (.int 0))))
 (gW [] 0 1 (dQ 1) (dW .Mod (dQ 0) (dQ 1))))
 (d5 [] (dB bAbs bAbs.mono (dP (dQ 0) dS))))
def eK:SpB:=.of 2 (α:=Int×Int) (fun x ds=>ds=[.int x.1,.int x.2]) (fun x d=>d = .int (Fr.cp x.1 x.2))
theorem pr(x:Int):(if x<0 then -x else x)=((x.natAbs:Nat):Int):=by split <;> (first|lia|omega)
theorem fQ:Does 2 gD eK:=by
 rintro ds Q hn ⟨⟨a,b⟩,rfl,q⟩;refine⟨fun s=>∃ a' b':Int,s=[.val (.int a'),.val (.int b')]/\Int.gcd a' b'=Int.gcd a b,fun s=>match s with|[_,.val (.int b')]=>b'.natAbs|_=>0,⟨a,b,rfl,rfl⟩,?_⟩;rintro _ ⟨a',b',rfl,hg⟩;refine zI (p:=b'=0) (fun c=>?_) (fun c=>?_)
 ·exact⟨c,⟨b',a'.fmod b',rfl,by rw [Fr.vi];exact hg⟩,Fr.sq a' b' c⟩
 ·subst c;refine q _ ?_;show D.int (if a'<0 then -a' else a') = .int (Fr.cp a b);unfold Fr.cp;rw [pr,← hg,Int.gcd_zero_right]
def gr:TSd:=(dSq (gW [] 0 1 (dB bAbs bAbs.mono (dP (dQ 0) dS)) (dB bAbs bAbs.mono (dP (dQ 1) dS)))
 (dSq (eB (eM (dQ 1))
 (gW [] 0 1 (dQ 1) (dW .Mod (dQ 0) (dQ 1))))
 (d5 [] (dQ 0))))
def e8:SpB:=.of 2 (α:=Int×Int) (fun x ds=>ds=[.int x.1,.int x.2]) (fun x d=>d = .int (Fr.cp x.1 x.2))
theorem fI:Does 2 gr e8:=by
 rintro ds Q hn ⟨⟨a,b⟩,rfl,q⟩;show (dSq (eB _ _) _).run _ [.val (.int (if a<0 then -a else a)),.val (.int (if b<0 then -b else b))];rw [pr,pr];refine⟨fun s=>∃ a' b':Nat,s=[.val (.int a'),.val (.int b')]/\Nat.gcd a' b'=Int.gcd a b,fun s=>match s with|[_,.val (.int b')]=>b'.natAbs|_=>0,⟨a.natAbs,b.natAbs,rfl,rfl⟩,?_⟩;rintro _ ⟨a',b',rfl,hg⟩;refine zc (c:=((b':Int) != 0)) (fun c=>?_) (fun c=>?_)
 ·have c':b'≠0:=by
   intro z;subst z;simp at c
  refine⟨by first|lia|omega,⟨b',a'%b',?_,by rw [Nat.gcd_comm,← Nat.gcd_rec,Nat.gcd_comm];exact hg⟩,?_⟩
  ·show [SD.val (.int b'),.val (.int ((a':Int).fmod b'))]=_;rw [cX _ (by first|lia|omega)];rfl
  ·show ((a':Int).fmod b').natAbs<(b':Int).natAbs;exact Fr.sq _ _ (by first|lia|omega)
 ·have c':b'=0:=by
   have:((b':Int)=0):=by simpa using c
   (first|lia|omega)
  subst c';refine q _ ?_;show D.int a' = .int (Fr.cp a b);unfold Fr.cp;rw [← hg,Nat.gcd_zero_right]
def gg:TSd:=(dSq (d8 [] (gNm 2) (dU eK (dP (dQ 0) (dP (dQ 1) dS))))
 (dSq (dIf [] (dZ (d7 .Lt (dQ 1) (dC (.int 0))))
 (d8 [] (gNm 2) (dW .Sub (dC (.int 0)) (dQ 2)))
 d3)
 (d5 [] (fH (dP (dW .FloorDiv (dQ 0) (dQ 2)) (dP (dW .FloorDiv (dQ 1) (dQ 2)) dS))))))
def dX:SpB:=.of 2 (α:=Int×Int) (fun x ds=>ds=[.int x.1,.int x.2]/\x.2≠0/\Lt2 9000000 x.2) (fun x d=>d=fD (Fr.top x.1 x.2) (Fr.qq x.1 x.2))
theorem fF:Does 3 gg dX:=by
 rintro ds Q hn ⟨⟨a,b⟩,⟨rfl,h0,hl⟩,q⟩;refine⟨rfl,(a,b),rfl,?_⟩;rintro _ rfl;have fin:∀ p:Int,p=Fr.part a b->lW a p/\lW b p/\2<=sizeLine/\Q (.tup [.int (a.fdiv p),.int (b.fdiv p)]):=by
  rintro p rfl;have c:∀ x,lW x (Fr.part a b):=fun x=>⟨Fr.rV h0,9000000,hl.le (Fr.rW h0),by decide⟩;exact⟨c _,c _,xx,q _ rfl⟩
 refine oZ (p:=b<0) (fun c=>?_) (fun c=>?_)
 ·exact fin _ (by unfold Fr.part;rw [if_pos c];simp)
 ·exact fin _ (by unfold Fr.part;rw [if_neg c])
end Dp
namespace Dp
open PySem L2
def FqD(n b:Nat)(d:D)(r:Rat):Prop:=∃ t u:Int,d=fD t u/\0<u/\Int.gcd t u=1/\Lt2 n t/\Lt2 b u/\r=(t:Rat) / (u:Rat)
theorem FqD.of{t u:Int}{n b:Nat}(u0:0<u)(lt:Lt2 n t)(lu:Lt2 b u):FqD n b (fD (Fr.top t u) (Fr.qq t u)) ((t:Rat) / (u:Rat)):=by
 obtain⟨l1,l2,l3⟩:=Fr.low (t:=t) (b:=u) (by first|lia|omega);obtain⟨m1,m2⟩:=Fr.qG (t:=t) (b:=u) (by first|lia|omega);exact⟨_,_,rfl,l1,l3,lt.le m1,lu.le m2,(Qp.zj (by first|lia|omega) (by first|lia|omega)).mpr l2.symm⟩
def fo:SpB:=.of 2 (α:=Int) (fun m ds=>ds=[.fl,.int m]/\0<=m/\Lt2 8000 m) (fun m d=>∃ z,d = .int z /\ -m<=z/\z<=m)
def gE:TSd:=(d5 [] (dW .Sub (dU dR (dP (dQ 0) (dP (dW .Add (dW .Mult (dC (.int 2)) (dQ 1)) (dC (.int 1))) dS))) (dQ 1)))
theorem fS:Does 2 gE fo:=by
 rintro ds Q hn ⟨m,⟨rfl,m0,m1⟩,q⟩;have two:Lt2 2 2:=by decide
 have lm:Lt2 9000 (2*m+1):=((two.mul m1).add ((show Lt2 1 1 by decide).mono (m:=2+8000) (by first|lia|omega))).mono (by first|lia|omega);refine⟨⟨_,_,two,m1,by first|lia|omega⟩,rfl,2*m+1,⟨rfl,by first|lia|omega,lm⟩,?_⟩;rintro _ ⟨i,rfl,i0,i1⟩;exact q _ ⟨_,rfl,by first|lia|omega,by first|lia|omega⟩
theorem qX{m:Int}{n:Nat}(h:m.natAbs<1000)(hn:10<=n:=by decide):Lt2 n m:=by
 unfold Lt2;exact ak (bJ h (show 1000<2^10 by decide)) (aZ (by decide) hn)
theorem Al{a b c e:Int}{i:Int}(h0:0<=i)(h1:i<4){Q:D->Prop}(qa:Q (.int a))(qb:Q (.int b))(qc:Q (.int c))(qe:Q (.int e)):itD [.int a,.int b,.int c,.int e] i Q:=by
 rcases (by first|lia|omega:i=0\/i=1\/i=2\/i=3) with rfl|rfl|rfl|rfl
 ·exact qa
 ·exact qb
 ·exact qc
 ·exact qe
def eE:SpB:=.of 2 (α:=Int×Nat) (fun (m,M) ds=>ds=[.fl,.int m]/\1<=m/\Lt2 M m/\2<=M/\M<=4000) (fun (m,M) d=>∃ r,FqD M M d r)
def fw:TSd:=(d5 [] (dU dX (dP (dU fo (dP (dQ 0) (dP (dQ 1) dS))) (dP (dW .Add (dC (.int 1)) (dU dR (dP (dQ 0) (dP (dIx (eX (dP (dC (.int 1)) (dP (dC (.int 1)) (dP (dC (.int 3)) (dP (dQ 1) dS))))) (dU dR (dP (dQ 0) (dP (dC (.int 4)) dS)))) dS)))) dS))))
theorem eY:Does 2 fw eE:=by
 rintro ds Q hn ⟨⟨m,M⟩,⟨rfl,m1,lm,M2,M4⟩,q⟩;refine⟨rfl,m,⟨rfl,by first|lia|omega,lm.mono (by first|lia|omega)⟩,?_⟩;rintro _ ⟨z,rfl,z0,z1⟩;refine⟨ko (n:=4) (by decide),rfl,4,⟨rfl,by decide,qX (by decide)⟩,?_⟩;rintro _ ⟨i,rfl,i0,i1⟩;have l3:Lt2 M 3:=(show Lt2 2 3 by decide).mono M2;have key:∀ u:Int,1<=u->Lt2 M u->([D.fl,.int u].length=dR.n/\dR.run [.fl,.int u] fun d=>oAdd (.int 1) d fun d=>[D.int z,d].length=dX.n/\dX.run [.int z,d] Q):=fun u u1 lu=>by
  refine⟨rfl,u,⟨rfl,by first|lia|omega,lu.mono (by first|lia|omega)⟩,?_⟩;rintro _ ⟨e,rfl,e0,e1⟩;have lb:Lt2 M (1+e):=lu.le (by first|lia|omega);refine⟨rfl,(z,1+e),⟨rfl,by show 1+e≠0;(first|lia|omega),lb.mono (by first|lia|omega)⟩,?_⟩;rintro _ rfl;exact q _ ⟨_,FqD.of (by first|lia|omega) (lm.le (by first|lia|omega)) lb⟩
 exact Al i0 i1 (key 1 (by decide) (l3.le (by decide))) (key 1 (by decide) (l3.le (by decide))) (key 3 (by decide) l3) (key m m1 lm)
end Dp
namespace Tx
open PySem
abbrev L(z:Str):List Nat:=z.cps.toList
theorem ext{a b:Str}(h:L a=L b):a=b:=Str.ext' (Array.toList_inj.mp h)
theorem kn{a b:Str}:L (a++b)=L a++L b:=by rw [L,Str.cps_append,Array.toList_append]
theorem jz{a:Str}:a.length=(L a).length:=bP.symm
def dg(l:List Nat):Bool:=l.all fun c=>decide (48<=c) && decide (c<=57)
theorem zl{l:List Nat}:dg l=true↔NumText.AllDigits l:=by
 unfold dg NumText.AllDigits;rw [aQ];exact⟨fun h c hc=>by simpa using h c hc,fun h c hc=>by simpa using h c hc⟩
def mz(z:Str):Bool:=decide (1<=z.length) && decide (z.length<=40) && dg (L z)
def m8(z:Str):Bool:=decide (z = "0") || !((L z).head? == some 48)
def jE(z:Str):Bool:=mz z && m8 z
def val(z:Str):Nat:=NumText.digitsVal (L z)
theorem whl_iff{z:Str}:mz z=true↔1<=z.length/\z.length<=40/\NumText.AllDigits (L z):=by
 unfold mz;simp only [ax,decide_eq_true_eq,zl,and_assoc]
theorem vc{z:Str}(h:mz z=true):intText? z=some (val z:Int):=by
 obtain⟨h1,h2,h3⟩:=whl_iff.mp h;refine intText_digits h3 (fun e=>?_) (by first|lia|omega);have e:L z=[]:=e;rw [jz,e] at h1;exact absurd h1 (by decide)
theorem nK(n:Nat):L (toString (n:Int):Str)=(Nat.toDigits 10 n).map Char.toNat:=W.KIN.signs_num n
theorem pK{c:Nat}(h:c<=57):(Char.ofNat c).toNat=c:=by
 have:c<58:=by first|lia|omega
 revert c;decide
theorem pZ{l:List Nat}(h:NumText.AllDigits l):(l.map Char.ofNat).map Char.toNat=l:=by
 rw [List.map_map];conv=>rhs;rw [← List.map_id l]
 exact List.map_congr_left fun c hc=>pK (h c hc).2
theorem ll{z:Str}(h:mz z=true):((toString (val z:Int):Str)=z)↔m8 z=true:=by
 obtain⟨h1,h2,h3⟩:=whl_iff.mp h;unfold m8;rw [cP,decide_eq_true_eq,bo,beq_eq_false_iff_ne];cases e:L z with
 | nil=>rw [jz,e] at h1;exact absurd h1 (by decide)
 | cons c r =>
  rw [e] at h3;have all:=NumText.toDigits_all (c::r) h3;have ev:val z=NumText.digitsVal (c::r):=by unfold val;rw [e]
  have key:(toString (val z:Int):Str)=z↔(Nat.toDigits 10 (NumText.digitsVal (c::r))).map Char.toNat=c::r:=by
   rw [← ev];constructor
   ·intro q;rw [← nK,q,e]
   ·intro q;exact ext (by rw [nK,q,e])
  rw [key,all];by_cases hc:c=48
  ·subst hc;constructor
   ·intro q;left;cases e2:List.dropWhile (fun x=>x == 48) (48::r) with
    | nil =>
     rw [e2] at q;have q:[48]=48::r:=q;injection q with _ q;exact ext (by rw [e,← q];rfl)
    | cons d s =>
     rw [e2] at q;have hd:NumText.AllDigits (d::s):=fun x hx=>h3 x (by
      have:x∈List.dropWhile (fun x=>x == 48) (48::r):=by rw [e2];exact hx
      exact (List.dropWhile_suffix _).subset this)
     have q:((d::s).map Char.ofNat).map Char.toNat=48::r:=q;rw [pZ hd] at q;injection q with q1 q2;have:=List.head?_dropWhile_not (fun x=>x == 48) (48::r);rw [e2] at this;simp [q1] at this
   ·rintro (q|q)
    ·have:(48::r:List Nat)=[48]:=by rw [← e,q];rfl
     injection this with _ this;subst this;rfl
    ·exact absurd rfl q
  ·have e2:List.dropWhile (fun x=>x == 48) (c::r)=c::r:=by
    rw [List.dropWhile_cons,if_neg (by simpa using hc)]
   rw [e2];refine⟨fun _=>.inr (by simpa using hc),fun _=>pZ h3⟩
theorem ln(n:Nat):NumText.AllDigits (L (toString (n:Int):Str)):=by
 intro c hc;rw [nK] at hc;obtain⟨d,hd,rfl⟩:=bQ.mp hc;have:=Nat.isDigit_of_mem_toDigits (by decide) (by decide) hd;unfold Char.isDigit at this;simp only [ax,decide_eq_true_eq] at this;exact⟨this.1,this.2⟩
theorem lK{n k:Nat}(hk:1<=k)(h:n<10^k):(toString (n:Int):Str).length<=k:=by
 rw [jz,nK,aH];exact toDigits_len_pow (by decide) hk h
theorem rZ(n:Nat):1<=(toString (n:Int):Str).length:=by
 rw [jz,nK,aH];exact toDigits_len_ge 10 n
theorem oP{n:Nat}(h:0<n):(toString (-(n:Int)):Str) = "-" ++ (toString (n:Int):Str):=by
 cases n with
 | zero=>exact absurd h (aM 0)
 | succ m =>
  refine ext ?_;rw [kn,nK];show L (Str.ofString ("-" ++ Nat.repr (m+1)))=_;have e1:L (Str.ofString "-")=[45]:=by rw [L,PyProof.Rows.signs_ofString];rfl
  have e2:L (Str.ofString ("-" ++ Nat.repr (m+1)))=45::(Nat.repr (m+1)).toList.map Char.toNat:=by
   rw [L,PyProof.Rows.signs_ofString,String.toList_append,bG];rfl
  have e3:(Nat.repr (m+1)).toList=Nat.toDigits 10 (m+1):=String.toList_ofList;rw [e1,e2,e3];rfl
abbrev S1(c:Nat):Str:=⟨#[c]⟩
theorem slash:("/" : Str)=S1 47:=by decide +kernel
theorem wY:("-" : Str)=S1 45:=by decide +kernel
theorem at_iff{y:Str}{c i:Nat}:StrLaws.At y (S1 c) y.length i↔(L y)[i]? = some c:=by
 unfold StrLaws.At;rw [StrLaws.subAt_eq];have e1:(S1 c).length=1:=rfl;have e2:(S1 c).cps.toList=[c]:=rfl;have e3:y.length=(L y).length:=jz;rw [e1,e2,e3];show i+1<=(L y).length/\(List.take 1 (List.drop i (L y)) == [c])=true↔_;generalize L y=l;constructor
 ·rintro⟨h1,h2⟩;rw [aw (by first|lia|omega)];rw [cW (by first|lia|omega),dn,cy] at h2;have h2:[l[i]]=[c]:=eq_of_beq h2;injection h2 with h2 _;rw [h2]
 ·intro h;obtain⟨hi,e⟩:=av.mp h;refine⟨by first|lia|omega,?_⟩;rw [cW hi,dn,cy,e];exact beq_self_eq_true _
theorem Ap{y:Str}{c:Nat}(h:c ∉ L y)(i:Nat):¬ StrLaws.At y (S1 c) y.length i:=fun z=>h (aK (at_iff.mp z))
theorem sX{y:Str}{c:Nat}(h:c ∉ L y):Txt.partition y (S1 c)=(y,Str.empty,Str.empty):=by
 unfold Txt.partition;rcases StrLaws.occ_head y (S1 c) 1 (aj 1) with⟨e,_⟩|⟨i,r,e,a,_⟩
 ·rw [e]
 ·exact absurd a (Ap h i)
theorem mj{y p t:Str}{c:Nat}(e:L y=L p++c::L t)(h:c ∉ L p):Txt.partition y (S1 c)=(p,S1 c,t):=by
 have hat:∀ i,(L y)[i]? = some c->(L p).length<=i:=fun i q=>by
  rcases bR i (L p).length with z|z
  ·rw [e,bE z] at q;exact absurd (aK q) h
  ·exact z
 have hp:(L y)[(L p).length]? = some c:=by rw [e,bS (aj _),Nat.sub_self];rfl
 unfold Txt.partition;rcases StrLaws.occ_head y (S1 c) 1 (aj 1) with⟨_,n⟩|⟨i,r,eo,a,n⟩
 ·exact absurd (at_iff.mpr hp) (n _)
 ·rw [eo];have ei:i=(L p).length:=by
   have h1:=hat i (at_iff.mp a);rcases bR (L p).length i with z|z
   ·exact absurd (at_iff.mpr hp) (n _ z)
   ·(first|lia|omega)
  subst ei;show (Builtin.Str.strSub y 0 (L p).length,S1 c,Builtin.Str.strSub y ((L p).length+1) y.length)=_;have e1:Builtin.Str.strSub y 0 (L p).length=p:=ext (by
   rw [L,StrLaws.strSub_toList];show List.take _ (List.drop 0 (L y))=_;rw [e,bU,Nat.sub_zero,List.take_left])
  have e2:Builtin.Str.strSub y ((L p).length+1) y.length=t:=ext (by
   rw [L,StrLaws.strSub_toList,jz];show List.take _ (List.drop ((L p).length+1) (L y))=_;rw [e,show L p++c::L t=(L p++[c])++L t by simp,List.drop_left' (by simp)];refine br ?_;simp only [aF,aJ,cq]
   (first|lia|omega))
  rw [e1,e2]
theorem mY(y:Str)(c:Nat):Str.join (S1 c) (Txt.split y (S1 c))=y:=by
 unfold Txt.split;split
 ·rfl
 ·split
  ·rfl
  ·rw [← StrLaws.glued_eq_join];exact StrLaws.glued_between_self y (S1 c) _
theorem pL(y:Str)(c:Nat):Txt.split y (S1 c)≠[]:=by
 unfold Txt.split;split
 ·exact fun z=>by cases z
 ·split
  ·exact fun z=>by cases z
  ·intro z;have:=congrArg List.length z;rw [length_partsBetween] at this;exact absurd this (by simp)
theorem xG(y:Str)(c:Nat):(Txt.split y (S1 c)=[y]/\c ∉ L y/\Txt.partition y (S1 c)=(y,Str.empty,Str.empty))\/(∃ p q,Txt.split y (S1 c)=[p,q]/\c ∉ L p/\c ∉ L q/\L y=L p++c::L q/\Txt.partition y (S1 c)=(p,S1 c,q)) \/
  ∃ p q r rs t,Txt.split y (S1 c)=p::q::r::rs/\c∈L t/\Txt.partition y (S1 c)=(p,S1 c,t):=by
 have hf:=StrLaws.split_free y c;have hg:=mY y c;have jn:∀(a b:Str) (l:List Str),Str.join (S1 c) (a::b::l)=a++S1 c++Str.join (S1 c) (b::l):=PyProof.Rows.join_cons_cons (S1 c);cases e:Txt.split y (S1 c) with
 | nil=>exact absurd e (pL y c)
 | cons p l =>
  rw [e] at hf hg;have fp:=hf p ar;cases l with
  | nil =>
   have hg:p=y:=hg;subst hg;exact .inl ⟨rfl,fp,sX fp⟩
  | cons q l =>
   rw [jn] at hg;have ey:L y=L p++c::L (Str.join (S1 c) (q::l)):=by
    rw [← hg,kn,kn];show (L p++[c])++_=_;simp
   cases l with
   | nil=>exact .inr (.inl ⟨p,q,rfl,fp,hf q (by simp),ey,mj ey fp⟩)
   | cons r rs =>
    refine .inr (.inr ⟨p,q,r,rs,_,rfl,?_,mj ey fp⟩);rw [jn,kn,kn];show c∈(L q++[c])++_;simp
theorem vd{c:Nat}{j:Str}:(!(Builtin.Str.occurrences j (S1 c) 0 j.length 1).isEmpty)=decide (c∈L j):=by
 rcases StrLaws.occ_head j (S1 c) 1 (aj 1) with⟨e,n⟩|⟨i,r,e,a,_⟩
 ·rw [e]
  symm
  rw [decide_eq_false (fun z=>?_)]
  ·rfl
  ·obtain⟨k,hk⟩:=List.getElem?_of_mem z;exact n k (at_iff.mpr hk)
 ·rw [e,decide_eq_true (aK (at_iff.mp a))];rfl
theorem om{c:Nat}:c∈L ("0123456789" : Str)↔48<=c/\c<=57:=by
 have e:L ("0123456789" : Str)=[48,49,50,51,52,53,54,55,56,57]:=by decide +kernel
 rw [e];simp only [ai,ah,or_false]
 (first|lia|omega)
theorem rO{z:Str}{k:Nat}(h:k<=z.length):L (StrLaws.sliceText z (some (k:Int)) none)=(L z).drop k:=by
 rw [jz] at h;rw [StrLaws.sliceText_from ⟨by first|lia|omega,by show (k:Int)<=((L z).length:Int);(first|lia|omega)⟩];show List.take _ (List.drop ((k:Int)).toNat (L z))=_;rw [aX];refine br ?_;rw [ce];show _<=((((L z).length:Nat):Int)-(k:Int)).toNat
 (first|lia|omega)
theorem z4{z:Str}{k:Nat}(h:k<=z.length):L (StrLaws.sliceText z none (some (k:Int)))=(L z).take k:=by
 rw [jz] at h;rw [StrLaws.sliceText_to ⟨by first|lia|omega,by show (k:Int)<=((L z).length:Int);(first|lia|omega)⟩];show List.take ((k:Int)-0).toNat (List.drop 0 (L z))=_;rw [Int.sub_zero,aX,bU]
end Tx
namespace Tx
open PySem
def ft(t u:Int):Str:=(toString t:Str)++(if u=1 then ("" : Str) else "/" ++ (toString u:Str))
def below(z:Str):Bool:=Txt.startswith z "-"
def rest(z:Str):Str:=if below z=true then StrLaws.sliceText z (some 1) none else z
def sg(z:Str):Int:=if below z=true then -1 else 1
def rG(p z:Str):Bool:=!(decide (p=("0" : Str)) && !decide (z=("0" : Str)))
def jD(z:Str):Option (Int×Int):=match Txt.split (rest z) "/" with
 | [p]=>if (jE p && rG p z)=true then some (sg z*(val p:Int),1) else none
 | [p,q]=>if (jE p && jE q && rG p z && (decide (2<=val q) && decide (Nat.gcd (val p) (val q)=1)))=true then some (sg z*(val p:Int),(val q:Int)) else none
 | _=>none
theorem below_iff{z:Str}:below z=true↔(L z).head? = some 45:=by
 unfold below Txt.startswith
 rw [wY,StrLaws.subAt_eq];show (decide (0+1<=z.length) && (List.take 1 (List.drop 0 (L z)) == [45]))=true↔_;rw [jz,ax,decide_eq_true_eq,bU,beq_iff_eq];cases e:L z with
 | nil=>simp
 | cons c r=>simp
theorem lq{z:Str}(h:below z=true):L z=45::L (rest z):=by
 have h2:=below_iff.mp h;unfold rest;rw [if_pos h];cases e:L z with
 | nil=>rw [e] at h2;cases h2
 | cons c r =>
  rw [e] at h2;cases h2;have:L (StrLaws.sliceText z (some ((1:Nat):Int)) none)=(L z).drop 1:=rO (by rw [jz,e];simp);rw [show ((1:Nat):Int)=1 from rfl] at this;rw [this,e];rfl
theorem lH{z:Str}(h:below z=false):rest z=z:=if_neg (by rw [h];exact ao)
theorem qs{z:Str}:decide (StrLaws.sliceText z none (some 1)=("-" : Str))=below z:=by
 have h1:L ("-" : Str)=[45]:=by rw [wY]
 cases e:L z with
 | nil =>
  have:z=Str.empty:=ext (by rw [e];rfl);subst this;decide +kernel
 | cons c r =>
  have h2:L (StrLaws.sliceText z none (some ((1:Nat):Int)))=(L z).take 1:=z4 (by rw [jz,e];simp);rw [show ((1:Nat):Int)=1 from rfl] at h2;rw [aS,decide_eq_true_eq,below_iff,e];constructor
  ·intro q;rw [q,h1,e] at h2;cases h2;rfl
  ·intro q;cases q;exact ext (by rw [h2,h1,e];rfl)
theorem yg{z:Str}:StrLaws.sliceText z (some 0) none=z:=ext (by
 have:=rO (z:=z) (k:=0) (bq _);rw [show ((0:Nat):Int)=0 from rfl] at this;rw [this,bU])
theorem jX(n:Nat):val (toString (n:Int):Str)=n:=by
 unfold val NumText.digitsVal;rw [nK,List.foldl_map];have h:=Nat.ofDigitChars_toDigits (b:=10) (n:=n) (by decide) (by decide);unfold Nat.ofDigitChars at h;conv=>rhs;rw [← h]
 congr 1;funext a c;show a*10+(c.toNat-48)=10*a+(c.toNat-48)
 (first|lia|omega)
theorem ua{p:Str}(h:mz p=true)(hp:m8 p=true)(h0:val p=0):p = "0" := by
 have:=(ll h).mpr hp;rw [h0] at this;rw [← this];decide +kernel
theorem oo{l:List Nat}(h:NumText.AllDigits l):47 ∉ l/\45 ∉ l:=⟨fun z=>by have:=h 47 z;(first|lia|omega),fun z=>by have:=h 45 z;(first|lia|omega)⟩
theorem vM(t:Int):L (toString t:Str)=(if t<0 then [45] else [])++L (toString ((t.natAbs:Nat):Int):Str):=by
 by_cases h:t<0
 ·rw [if_pos h];have:t = -((t.natAbs:Nat):Int):=by first|lia|omega
  conv=>lhs;rw [this,oP (by first|lia|omega),kn,wY]
 ·rw [if_neg h,bC (by first|lia|omega)];rfl
theorem q8{t:Int}:ft t 1=(toString t:Str):=by
 unfold ft;rw [if_pos rfl];exact Str.append_empty _
theorem zE{t u:Int}(h:u≠1)(u0:0<u):L (ft t u)=L (toString t:Str)++47::L (toString ((u.natAbs:Nat):Int):Str):=by
 unfold ft;rw [if_neg h,kn,kn,slash,bC (by first|lia|omega)];rfl
theorem za(t:Int):47 ∉ L (toString t:Str):=by
 rw [vM];intro z;rcases bw.mp z with z|z
 ·split at z
  ·simp at z
  ·cases z
 ·exact (oo (ln _)).1 z
theorem cut{a b c d:List Nat}{s:Nat}(h:a++s::b=c++s::d)(ha:s ∉ a)(hc:s ∉ c):a=c/\b=d:=by
 induction a generalizing c with
 | nil =>
  cases c with
  | nil=>injection h with _ h;exact⟨rfl,h⟩
  | cons x r=>injection h with h _;exact absurd (by rw [← h];exact ar) hc
 | cons x r ih =>
  cases c with
  | nil=>injection h with h _;exact absurd (by rw [h];exact ar) ha
  | cons y q =>
   injection h with h1 h2;obtain⟨e1,e2⟩:=ih h2 (fun z=>ha (aq _ z)) (fun z=>hc (aq _ z));exact⟨by rw [h1,e1],e2⟩
theorem mO{z y:Str}{t:Int}{r:List Nat}(hz:L z=L (toString t:Str)++r)(hy:y=rest z):(below z=true↔t<0)/\L y=L (toString ((t.natAbs:Nat):Int):Str)++r:=by
 subst hy;rw [vM] at hz;have hd:∀ c s,L (toString ((t.natAbs:Nat):Int):Str)=c::s->c≠45:=fun c s e=>by
  have:=ln t.natAbs c (by rw [e];exact ar)
  (first|lia|omega)
 have ne:L (toString ((t.natAbs:Nat):Int):Str)≠[]:=fun e=>by
  have:=rZ t.natAbs;rw [jz,e] at this;exact absurd this (by decide)
 by_cases h:t<0
 ·rw [if_pos h] at hz;have b:below z=true:=below_iff.mpr (by rw [hz];rfl);have:=lq b;rw [hz] at this;injection this with _ this;exact⟨⟨fun _=>h,fun _=>b⟩,this.symm⟩
 ·rw [if_neg h] at hz;have b:below z=false:=by
   rw [bA];intro q;have q:=below_iff.mp q;rw [hz] at q;cases e:L (toString ((t.natAbs:Nat):Int):Str) with
   | nil=>exact ne e
   | cons c s =>
    rw [e] at q;cases q;exact hd _ _ e rfl
  rw [lH b];exact⟨⟨fun q=>absurd (b.symm.trans q) ao,fun q=>absurd q h⟩,hz⟩
def tZ(sl bt:Str):Nat:=if sl.length=0 then 1 else val bt
def tO(z tp sl bt:Str):Prop:=mz tp=true/\(sl.length≠0->mz bt=true)/\tZ sl bt≠0/\ft (Fr.top (sg z*(val tp:Int)) (tZ sl bt)) (Fr.qq (sg z*(val tp:Int)) (tZ sl bt))=z
theorem CA{z:Str}:L z=(if below z=true then [45] else [])++L (rest z):=by
 cases h:below z with
 | true=>rw [if_pos rfl,lq h];rfl
 | false=>rw [if_neg ao,lH h];rfl
theorem back{z p:Str}{r:List Nat}(hy:L (rest z)=L p++r)(hp:mz p=true)(h0:m8 p=true)(hz:rG p z=true):L (toString (sg z*(val p:Int)):Str)++r=L z:=by
 have e:=(ll hp).mpr h0;rw [@CA z,hy,← dJ];congr 1;unfold sg;cases b:below z with
 | false =>
  rw [if_neg ao,if_neg ao,cO,e];rfl
 | true =>
  have v0:val p≠0:=fun v=>by
   have e0:=ua hp h0 v;unfold rG at hz;rw [decide_eq_true e0,b9,Bool.not_not,decide_eq_true_eq] at hz;rw [hz] at b;revert b;decide +kernel
  rw [if_pos rfl,if_pos rfl,Int.neg_mul,cO,oP (by first|lia|omega),kn,wY,e]
theorem lX{p z:Str}(h:p = "0" -> z = "0"):rG p z=true:=by
 unfold rG;by_cases c:p = "0"
 ·rw [decide_eq_true c,decide_eq_true (h c)];rfl
 ·rw [decide_eq_false c];rfl
theorem uk{z:Str}{n:Nat}:(sg z*(n:Int)).natAbs=n:=by
 unfold sg;split <;> (first|lia|omega)
theorem vQ:val ("0" : Str)=0:=by decide +kernel
theorem zd{z:Str}{n m:Nat}:Int.gcd (sg z*(n:Int)) (m:Int)=Nat.gcd n m:=by
 unfold Int.gcd;rw [uk];rfl
theorem sO(z:Str){tp sl bt:Str}(e:Txt.partition (rest z) "/" = (tp,sl,bt)) :
  (tO z tp sl bt/\jD z=some (Fr.top (sg z*(val tp:Int)) (tZ sl bt),Fr.qq (sg z*(val tp:Int)) (tZ sl bt)))\/(¬ tO z tp sl bt/\jD z=none):=by
 rw [slash] at e;have ps:=xG (rest z) 47;unfold jD;rw [slash];rcases ps with⟨e1,f1,e2⟩|⟨p,q,e1,f1,f2,ey,e2⟩|⟨p,q,r,rs,t,e1,f1,e2⟩
 ·rw [e2] at e;cases e;rw [e1];dsimp only;have eu:tZ Str.empty Str.empty=1:=rfl;have fr:=Fr.self (t:=sg z*(val (rest z):Int)) (b:=((1:Nat):Int)) (by decide) (Int.gcd_one_right _);unfold tO;rw [eu,fr.1,fr.2];show (_/\_/\_/\ft _ 1=z)/\_\/¬ (_/\_/\_/\ft _ 1=z)/\_;rw [q8];by_cases g:(jE (rest z) && rG (rest z) z)=true
  ·rw [if_pos g];obtain⟨g1,g2⟩:=ad.mp g;obtain⟨g3,g4⟩:=ad.mp g1;refine .inl ⟨⟨g3,fun z=>absurd rfl z,by decide,?_⟩,rfl⟩;have:=back (r:=[]) (by rw [aD]) g3 g4 g2;rw [aD] at this;exact ext this
  ·rw [if_neg g];refine .inr ⟨fun⟨h1,_,_,h4⟩=>g ?_,rfl⟩;have c:=mO (z:=z) (y:=rest z) (r:=[]) (by rw [h4,aD]) rfl;rw [aD,uk] at c;have hp:=(ll h1).mp (ext c.2.symm);refine ad.mpr ⟨ad.mpr ⟨h1,hp⟩,lX fun h=>?_⟩;rw [h,vQ,show sg z*((0:Nat):Int)=0 by first|lia|omega] at h4;rw [← h4];decide +kernel
 ·rw [e2] at e;cases e;rw [e1];dsimp only;have eu:tZ (S1 47) bt=val bt:=rfl;unfold tO;rw [eu];by_cases g:(jE tp && jE bt && rG tp z && (decide (2<=val bt) && decide (Nat.gcd (val tp) (val bt)=1)))=true
  ·rw [if_pos g];obtain⟨g,g5⟩:=ad.mp g;obtain⟨g6,g7⟩:=ad.mp g5;have g6:=of_decide_eq_true g6;have g7:=of_decide_eq_true g7;obtain⟨g,g3⟩:=ad.mp g;obtain⟨g1,g2⟩:=ad.mp g;obtain⟨a1,a2⟩:=ad.mp g1;obtain⟨b1,b2⟩:=ad.mp g2;have fr:=Fr.self (t:=sg z*(val tp:Int)) (b:=((val bt:Nat):Int)) (by first|lia|omega) (by rw [zd];exact g7);rw [fr.1,fr.2];refine .inl ⟨⟨a1,fun _=>b1,by first|lia|omega,ext ?_⟩,rfl⟩;rw [zE (by first|lia|omega) (by first|lia|omega),bg,(ll b1).mpr b2];exact back ey a1 a2 g3
  ·rw [if_neg g];refine .inr ⟨fun⟨h1,h2,h3,h4⟩=>g ?_,rfl⟩;have h2:=h2 (by decide);have lw:=Fr.low (t:=sg z*(val tp:Int)) (b:=((val bt:Nat):Int)) (by first|lia|omega);generalize Fr.top (sg z*(val tp:Int)) ((val bt:Nat):Int)=t at h4 lw;generalize Fr.qq (sg z*(val tp:Int)) ((val bt:Nat):Int)=u at h4 lw;obtain⟨u0,l2,l3⟩:=lw;have hz:(47:Nat)∈L z:=by
    rw [@CA z,ey];simp
   have u1:u≠1:=fun c=>by
    rw [c,q8] at h4;exact za t (by rw [h4];exact hz)
   have lf:=zE (t:=t) u1 u0;rw [h4] at lf;obtain⟨c1,c2⟩:=mO (y:=rest z) lf rfl;rw [ey] at c2;obtain⟨d1,d2⟩:=cut c2 f1 (oo (ln _)).1;have p1:tp=(toString ((t.natAbs:Nat):Int):Str):=ext d1;have p2:bt=(toString ((u.natAbs:Nat):Int):Str):=ext d2;have v1:val tp=t.natAbs:=by rw [p1,jX]
   have v2:val bt=u.natAbs:=by rw [p2,jX]
   have q1:=(ll h1).mp (by rw [v1];exact p1.symm);have q2:=(ll h2).mp (by rw [v2];exact p2.symm);have gc:Nat.gcd (val tp) (val bt)=1:=by rw [v1,v2];exact l3
   have two:2<=val bt:=by first|lia|omega
   simp only [ax,decide_eq_true_eq];refine⟨⟨⟨ad.mpr ⟨h1,q1⟩,ad.mpr ⟨h2,q2⟩⟩,lX fun h=>?_⟩,two,gc⟩;rw [h,vQ,dN] at gc
   (first|lia|omega)
 ·rw [e2] at e;cases e;rw [e1];dsimp only;refine .inr ⟨fun⟨_,h2,_⟩=>?_,rfl⟩;have:=(whl_iff.mp (h2 (by decide))).2.2;exact (oo this).1 f1
theorem rH{n:Nat}(h:n<10^40):mz (toString (n:Int):Str)=true:=whl_iff.mpr ⟨rZ n,lK (by decide) h,ln n⟩
theorem nr{n:Nat}(h:n<10^40):jE (toString (n:Int):Str)=true:=ad.mpr ⟨rH h,(ll (rH h)).mp (by rw [jX])⟩
theorem uI{t u:Int}(u0:0<u)(g:Int.gcd t u=1)(ht:t.natAbs<10^40)(hu:u.natAbs<10^40):jD (ft t u)=some (t,u):=by
 have ps:=xG (rest (ft t u)) 47;have sum:=StrLaws.partition_sum (rest (ft t u)) (S1 47);have sgt:∀ z:Str,(below z=true↔t<0)->sg z*((t.natAbs:Nat):Int)=t:=fun z h=>by
  unfold sg;by_cases c:t<0
  ·rw [if_pos (h.mpr c)];(first|lia|omega)
  ·rw [if_neg (fun q=>c (h.mp q))];(first|lia|omega)
 unfold jD;rw [slash];by_cases c:u=1
 ·subst c;have lf:L (ft t 1)=L (toString t:Str)++[]:=by rw [q8,aD]
  obtain⟨b,ly⟩:=mO lf rfl;rw [aD] at ly;have ey:rest (ft t 1)=(toString ((t.natAbs:Nat):Int):Str):=ext ly;have no:47 ∉ L (rest (ft t 1)):=by rw [ly];exact (oo (ln _)).1
  rcases ps with⟨e1,_,_⟩|⟨p,q,e1,f1,f2,ey,e2⟩|⟨p,q,r,rs,x,e1,f1,e2⟩
  ·rw [e1];dsimp only;rw [ey,nr ht,jX,sgt _ b,lX (fun h=>?_)]
   ·rfl
   ·have v:=jX t.natAbs;rw [h,vQ] at v;rw [show t=0 by first|lia|omega];decide +kernel
  ·rw [ey] at no;exact absurd (by simp) no
  ·rw [e2] at sum;exfalso;apply no;rw [← sum,kn];exact aC _ f1
 ·have lf:=zE (t:=t) c u0;obtain⟨b,ly⟩:=mO lf rfl;have nt:=(oo (ln t.natAbs)).1;have nu:=(oo (ln u.natAbs)).1;have pp:=mj (y:=rest (ft t u)) (p:=(toString ((t.natAbs:Nat):Int):Str)) (t:=(toString ((u.natAbs:Nat):Int):Str)) ly nt;rcases ps with⟨e1,f1,_⟩|⟨p,q,e1,f1,f2,ey,e2⟩|⟨p,q,r,rs,x,e1,f1,e2⟩
  ·rw [ly] at f1;exact absurd (by simp) f1
  ·rw [e1];dsimp only;rw [pp] at e2;cases e2;have two:2<=u.natAbs:=by first|lia|omega
   have gn:Nat.gcd t.natAbs u.natAbs=1:=g;rw [nr ht,nr hu,jX,jX,decide_eq_true two,decide_eq_true gn,sgt _ b,lX (fun h=>?_)]
   ·rw [show ((u.natAbs:Nat):Int)=u by first|lia|omega];rfl
   ·have v:=jX t.natAbs;rw [h,vQ] at v;rw [← v,dN] at gn
    (first|lia|omega)
  ·rw [pp] at e2;cases e2;exact absurd f1 nu
end Tx
namespace Dp
open PySem L2
structure X8 where
 BadText:Addr
def X8.ix(x:X8)(C:Addr):Option Nat:=if C=x.BadText then some 0 else none
theorem X8.i0(x:X8):x.ix x.BadText=some 0:=by
 unfold X8.ix;rw [if_pos rfl]
def X8.isBadText(x:X8)(C:Addr):Option Bool:=(x.ix C).map fun i=>i == 0
def X8.isValueError(x:X8)(C:Addr):Option Bool:=(x.ix C).map fun _=>true
def X8.isNoNameNoRowTooGreatTwice(x:X8)(C:Addr):Option Bool:=(x.ix C).map fun i=>i != 0
def X8.has_at(x:X8)(C:Addr):Bool:=x.ix C == some 0
def X8.all(x:X8)(C:Addr):Bool:=(x.ix C).isSome
variable(x8:X8)
def e9:SpB:=.of 2 (α:=Int×Int) (fun x ds=>ds=[.int x.1,.int x.2]/\x.2≠0/\Lt2 9000000 x.2) (fun x d=>d=fD (Fr.top x.1 x.2) (Fr.qq x.1 x.2))
def gF:TSd:=(d5 [] (fH (dP (dW .FloorDiv (dQ 0) (dQ 2)) (dP (dW .FloorDiv (dQ 1) (dQ 2)) dS))))
def gG:TSd:=dSq (dIf [] (dZ (d7 .Lt (dQ 1) (dC (.int 0))))
 (d8 [] (gNm 2) (hW (dQ 2)))
 d3)
 gF
def ic:TSd:=dSq (d8 [] (gNm 2) (dU e8 (dP (dQ 0) (dP (dQ 1) dS))))
 gG
theorem gu:Does 3 ic e9:=by
 rintro ds Q hn ⟨⟨a,b⟩,⟨rfl,h0,hl⟩,q⟩;refine⟨rfl,(a,b),rfl,?_⟩;rintro _ rfl;have fin:∀ p:Int,p=Fr.part a b->lW a p/\lW b p/\2<=sizeLine/\Q (.tup [.int (a.fdiv p),.int (b.fdiv p)]):=by
  rintro p rfl;have c:∀ x,lW x (Fr.part a b):=fun x=>⟨Fr.rV h0,9000000,hl.le (Fr.rW h0),by decide⟩;exact⟨c _,c _,xx,q _ rfl⟩
 refine oZ (p:=b<0) (fun c=>?_) (fun c=>?_)
 ·exact fin _ (by unfold Fr.part;rw [if_pos c])
 ·exact fin _ (by unfold Fr.part;rw [if_neg c])
theorem u6{n:Nat}(h:n<10^200):n.log2<1920:=by
 rcases Nat.eq_zero_or_pos n with rfl|z
 ·decide
 ·exact (Nat.log2_lt (by first|lia|omega)).mpr (bJ h (by decide +kernel))
def er:SpB:=.of 1 (α:=Nat) (fun n ds=>ds=[.int n]/\n<10^64) (fun n d=>d = .str (toString (n:Int)))
def gH:TSd:=(dSq (d8 [] (gNm 1) (dW .Pow (dC (.int 10)) (dC (.int 64))))
 (dSq (iE [] 2 (eX dS))
 (dSq (eB (dZ (d7 .GtE (dQ 0) (dQ 1))) e7)
 (dSq (iF [] 2 (dB bStr bStr.mono (dP (dQ 0) dS)))
 (d5 [2] (ge "" (dQ 2)))))))
theorem fT:Does 4 gH er:=by
 rintro ds Q _ ⟨n,⟨rfl,hn⟩,q⟩;have hc:((10:Int)^(64:Int).toNat)=((10^64:Nat):Int):=by decide +kernel
 refine⟨⟨by decide,by decide,by decide⟩,CN,fun s=>s=[.val (.int n),.val (.int (10^(64:Int).toNat)),.own [],.no],fun _=>0,rfl,?_⟩;rintro _ rfl;refine oZ (p:=((10:Int)^(64:Int).toNat)<=(n:Int)) (fun c=>?_) (fun c=>?_)
 ·rw [hc] at c;exact absurd c (by first|lia|omega)
 ·have l1:=Tx.lK (k:=64) (by decide) hn;refine⟨u6 (bJ hn (by decide +kernel)),ko (n:=1) (by decide),[toString (n:Int)],rfl,by decide,?_,?_⟩
  ·simp only [aY,List.map_nil,List.sum_cons,List.sum_nil,aJ,cq]
   (first|lia|omega)
  ·exact q _ rfl
open Tx (ft)
def eh:SpB:=.of 1 (α:=Int×Int) (fun x ds=>ds=[fD x.1 x.2]/\0<x.2/\x.1.natAbs<10^64/\x.2.natAbs<10^64) (fun x d=>d = .str (ft x.1 x.2))
def fU:TSd:=(dSq (d8 [] (gTp [1,2]) (dQ 0))
 (dSq (d8 [] (gNm 3) (dU er (dP (dB bAbs bAbs.mono (dP (dQ 1) dS)) dS)))
 (dSq (dIf [] (dZ (d7 .Lt (dQ 1) (dC (.int 0))))
 (d8 [] (gNm 3) (dW .Add (dC (.str "-")) (dQ 3)))
 d3)
 (dSq (dIf [] (dZ (d7 .NotEq (dQ 2) (dC (.int 1))))
 (hX [] 3 .Add (dW .Add (dC (.str "/")) (dU er (dP (dQ 2) dS))))
 d3)
 (d5 [] (dQ 3))))))
theorem fA:Does 4 fU eh:=by
 rintro ds Q hn ⟨⟨t,u⟩,⟨rfl,u0,ht,hu⟩,q⟩;dsimp only at u0 ht hu q;have lt:=Tx.lK (k:=64) (by decide) ht;have lu:=Tx.lK (k:=64) (by decide) hu;refine⟨rfl,rfl,t.natAbs,⟨by show [D.int (if t<0 then -t else t)]=_;rw [pr],ht⟩,?_⟩;rintro _ rfl;have fin:∀ z:Str,z.length<=100->z=(toString t:Str)->(dIf [] (dZ (d7 .NotEq (dQ 2) (dC (.int 1)))) (hX [] 3 .Add (dW .Add (dC (.str "/")) (dU er (dP (dQ 2) dS)))) d3).run ⟨fun s=>(d5 [] (dQ 3)).run (jA Q) s,(jA Q).rt,(jA Q).bk,(jA Q).ct⟩ [.val (fD t u),.val (.int t),.val (.int u),.val (.str z)]:=by
  rintro z hz rfl;refine zI (p:=u=1) (fun c=>?_) (fun c=>?_)
  ·refine⟨rfl,u.natAbs,⟨by rw [bC (by first|lia|omega)],hu⟩,?_⟩;rintro _ rfl;have e:(("/" : Str)++(toString (u.natAbs:Int):Str)).length<=70:=by
    rw [Tx.jz,Tx.kn,aF,← Tx.jz,← Tx.jz];have:("/" : Str).length=1:=by decide +kernel
    (first|lia|omega)
   refine⟨ko ?_,ko ?_,q _ ?_⟩
   ·have:("/" : Str).length=1:=by decide +kernel
    (first|lia|omega)
   ·(first|lia|omega)
   ·unfold ft;rw [if_neg c,bC (by first|lia|omega)]
  ·refine q _ ?_;unfold ft;rw [if_pos c];exact congrArg D.str (Str.append_empty _).symm
 refine oZ (p:=t<0) (fun c=>?_) (fun c=>?_)
 ·have e:(toString t:Str) = "-" ++ (toString (t.natAbs:Int):Str):=by
   rw [← Tx.oP (by first|lia|omega),Int.ofNat_natAbs_of_nonpos (by first|lia|omega),Int.neg_neg]
  have l1:("-" : Str).length=1:=by decide +kernel
  have hl:(("-" : Str)++(toString (t.natAbs:Int):Str)).length<=100:=by
   rw [Tx.jz,Tx.kn,aF,← Tx.jz,← Tx.jz]
   (first|lia|omega)
  exact⟨ko (by first|lia|omega),fin _ hl e.symm⟩
 ·refine fin _ (by first|lia|omega) ?_;rw [bC (by first|lia|omega)]
def et:SpX:=.of 1 (α:=Str) (fun z ds=>ds=[.str z]/\z.length<=100000) (fun z d=>Tx.mz z=true/\d = .int (Tx.val z)) (fun z d=>Tx.mz z=false/\d = .exn x8.BadText "at" [.int 0])
def eP(E:D->Prop):TSd:=(dSq (dIf [] (eZ (eG (dZ (eJ .LtE .LtE (dC (.int 1)) (dB bLen bLen.mono (dP (dQ 0) dS)) (dC (.int 40))))) (eM (dB bAny bAny.mono (dP (eN (eW (dQ 0)) [1] (gNm 1) iB (d7 .NotIn (dQ 1) (dC (.str "0123456789")))) dS))))
 (eO E x8.BadText "at" (dP (dC (.int 0)) dS))
 d3)
 (d5 [] (dB bInt bInt.mono (dP (dQ 0) dS))))
theorem zx{z:Str}:((z.cps.toList.map fun c => !decide (c∈Tx.L ("0123456789" : Str))).any id) = !Tx.dg (Tx.L z):=by
 unfold Tx.dg;show _ = !((z.cps.toList).all _);induction z.cps.toList with
 | nil=>rfl
 | cons c r ih =>
  rw [aY,bM,ih,b8,Bool.not_and];congr 1;show (!decide (c∈Tx.L ("0123456789" : Str))) = !(decide (48<=c) && decide (c<=57));rw [show decide (c∈Tx.L ("0123456789" : Str))=(decide (48<=c) && decide (c<=57)) by rw [← Bool.decide_and];exact decide_eq_decide.mpr Tx.om]
theorem AF{t u:TSd}{E:EndsD}{ss:SS}:(dSq t u).run E ss=t.run ⟨fun s=>u.run E s,E.rt,E.bk,E.ct⟩ ss:=rfl
theorem AG{k:TTd}{t u:TSd}{E:EndsD}{ss:SS}:(dIf [] k t u).run E ss=k.run ss fun b=>if b=true then t.run E ss else u.run E ss:=rfl
theorem vv{a b:TTd}{ss:SS}{Q:Bool->Prop}:(eZ a b).run ss Q=a.run ss fun k=>if k=true then Q true else b.run ss Q:=rfl
theorem sA{a:TTd}{ss:SS}{Q:Bool->Prop}:(eG a).run ss Q=a.run ss fun k=>Q (!k):=rfl
theorem tR{a b:Int}{z:Str}{r:SS}{Q:Bool->Prop}:(dZ (eJ .LtE .LtE (dC (.int a)) (dB bLen bLen.mono (dP (dQ 0) dS)) (dC (.int b)))).run (.val (.str z)::r) Q=(z.length<=sizeLine/\if decide (a<=(z.length:Int))=true then Q (decide ((z.length:Int)<=b)) else Q false):=rfl
theorem fW:sE 2 (eP x8) (et x8):=by
 rintro ds Q E _ ⟨z,⟨rfl,hz⟩,q,r⟩;have bad:Tx.mz z=false->∀ ss,(eO E x8.BadText "at" (dP (dC (.int 0)) dS)).run ⟨fun s=>(d5 [] (dB bInt bInt.mono (dP (dQ 0) dS))).run (jA Q) s,(jA Q).rt,(jA Q).bk,(jA Q).ct⟩ ss:=fun h ss=>⟨_,rfl,.inl ⟨0,rfl⟩,r _ ⟨h,rfl⟩⟩;show (eP x8 E).run (jA Q) [.val (.str z),.no];unfold eP;rw [AF,AG,vv,sA,tR];refine⟨ko (by first|lia|omega),?_⟩;refine oZ (p:=(1:Int)<=(z.length:Int)) (fun c1=>?_) (fun c1=>?_)
 rotate_left
 ·refine bad ?_ _;rw [bA];intro h;have:=(Tx.whl_iff.mp h).1
  (first|lia|omega)
 refine zI (p:=(z.length:Int)<=40) (fun c2=>?_) (fun c2=>?_)
 ·refine bad ?_ _;rw [bA];intro h;have:=(Tx.whl_iff.mp h).2.1
  (first|lia|omega)
 have hl:(mD z).length=z.length:=kI;refine⟨ko (by first|lia|omega),fun i ys=>ys=((z.cps.toList.take i).map fun c=>D.bl (!decide (c∈Tx.L ("0123456789" : Str)))),rfl,?_,?_⟩
 ·rintro i d _ hd _ rfl;unfold mD at hd;rw [aV] at hd;obtain⟨c,hc,rfl⟩:=aa.mp hd;refine .inr (.inr (.inr ⟨_,_,rfl,rfl,?_⟩));show _=_;unfold zb;rw [Tx.vd,cS,hc,bG];rfl
 ·rintro _ _ rfl;refine⟨(z.cps.toList.map fun c => !decide (c∈Tx.L ("0123456789" : Str))),?_,?_⟩
  ·rw [hl,br (cm Tx.jz.symm),List.map_map];rfl
  ·show if List.any _ id=true then _ else _;rw [zx];refine zc (fun c=>?_) (fun c=>?_)
   ·refine bad ?_ _;unfold Tx.mz;rw [show Tx.dg (Tx.L z)=false by simpa using c,bW]
   ·have hw:Tx.mz z=true:=by
     unfold Tx.mz;rw [show Tx.dg (Tx.L z)=true by simpa using c,cA,ax,decide_eq_true_eq,decide_eq_true_eq]
     (first|lia|omega)
    exact⟨_,Tx.vc hw,by first|lia|omega,q _ ⟨hw,rfl⟩⟩
def t9:D:=.exn x8.BadText "at" [.int 0]
def dY:SpX:=.of 1 (α:=Str) (fun z ds=>ds=[.str z]/\z.length<=90000) (fun z d=>∃ t u,Tx.jD z=some (t,u)/\d=fD t u) (fun z d=>Tx.jD z=none/\d=t9 x8)
def i5:TSd:=(d5 [] (dQ 6))
def ig(E:D->Prop):TSd:=dSq (dIf [] (dZ (d7 .NotEq (dU eh (dP (dQ 6) dS)) (dQ 0)))
 (eO E x8.BadText "at" (dP (dC (.int 0)) dS))
 d3)
 i5
def iI(E:D->Prop):TSd:=dSq (d8 [] (gNm 6) (dU e9 (dP (gQ (eM (dQ 1)) (hW (dU ((et x8).at E) (dP (dQ 2) dS))) (dU ((et x8).at E) (dP (dQ 2) dS))) (dP (dQ 5) dS))))
 (ig x8 E)
def iJ(E:D->Prop):TSd:=dSq (dIf [] (dZ (d7 .Eq (dQ 5) (dC (.int 0))))
 (eO E x8.BadText "at" (dP (dC (.int 0)) dS))
 d3)
 (iI x8 E)
def ii(E:D->Prop):TSd:=dSq (d8 [] (gNm 5) (gQ (eM (dQ 3)) (dU ((et x8).at E) (dP (dQ 4) dS)) (dC (.int 1))))
 (iJ x8 E)
def i6(E:D->Prop):TSd:=dSq (d8 [] (gTp [2,3,4]) (ia .part (gQ (eM (dQ 1)) (dSl (dQ 0) (eH (dC (.int 1))) dNo) (dQ 0)) (dC (.str "/"))))
 (ii x8 E)
def fX(E:D->Prop):TSd:=dSq (d8 [] (gNm 1) (ia .starts (dQ 0) (dC (.str "-"))))
 (i6 x8 E)
section
variable{x8:X8}{Q E:D->Prop}{z tp sl bt:Str}{k:Bool}
theorem Bq{n:Int}{t u:Int}(u0:0<u)(ht:t.natAbs<10^64)(hu:u.natAbs<10^64)(h1:ft t u=z->Q (fD t u))(h2:ft t u≠z->E (t9 x8)):(ig x8 E).run (jA Q) [.val (.str z),.val (.bl k),.val (.str tp),.val (.str sl),.val (.str bt),.val (.int n),.val (fD t u)]:=by
 refine⟨rfl,(t,u),⟨rfl,u0,ht,hu⟩,?_⟩;rintro _ rfl;refine zI (p:=ft t u=z) (fun c=>?_) (fun c=>?_)
 ·exact⟨_,rfl,.inl ⟨0,rfl⟩,h2 c⟩
 ·exact h1 c
theorem Br{n:Nat}(n0:n≠0)(hn:n<10^64)(lt:tp.length<=90000)(h0:Tx.mz tp=false->E (t9 x8))(h1:Tx.mz tp=true->ft (Fr.top ((if k=true then -1 else 1)*(Tx.val tp:Int)) n) (Fr.qq ((if k=true then -1 else 1)*(Tx.val tp:Int)) n)=z->Q (fD (Fr.top ((if k=true then -1 else 1)*(Tx.val tp:Int)) n) (Fr.qq ((if k=true then -1 else 1)*(Tx.val tp:Int)) n)))
  (h2:Tx.mz tp=true->ft (Fr.top ((if k=true then -1 else 1)*(Tx.val tp:Int)) n) (Fr.qq ((if k=true then -1 else 1)*(Tx.val tp:Int)) n)≠z->E (t9 x8)) (hv:Tx.mz tp=true->Tx.val tp<10^64):(iI x8 E).run (jA Q) [.val (.str z),.val (.bl k),.val (.str tp),.val (.str sl),.val (.str bt),.val (.int n),.no]:=by
 have l2:Lt2 9000000 (n:Int):=(show Lt2 300 (n:Int) from bJ hn (by decide +kernel)).mono (by decide);have go:Tx.mz tp=true->∀ m:Int,m=(if k=true then -1 else 1)*(Tx.val tp:Int)->e9.run [.int m,.int n] fun d=>(gNm 6).run d [.val (.str z),.val (.bl k),.val (.str tp),.val (.str sl),.val (.str bt),.val (.int n),.no] fun s=>(ig x8 E).run (jA Q) s:=by
  rintro hw _ rfl;have ab:((if k=true then -1 else 1)*(Tx.val tp:Int)).natAbs<10^64:=by
   have:=hv hw;split <;> (first|lia|omega)
  refine⟨(_,(n:Int)),⟨rfl,by first|lia|omega,l2⟩,?_⟩;rintro _ rfl;have lw:=Fr.low (t:=(if k=true then -1 else 1)*(Tx.val tp:Int)) (b:=(n:Int)) (by first|lia|omega);have le:=Fr.qG (t:=(if k=true then -1 else 1)*(Tx.val tp:Int)) (b:=(n:Int)) (by first|lia|omega);exact Bq lw.1 (bv le.1 ab) (bv le.2 (by rw [bg];exact hn)) (h1 hw) (h2 hw)
 show if k=true then _ else _;cases k
 ·refine⟨rfl,tp,⟨rfl,by first|lia|omega⟩,?_,?_⟩
  ·rintro _ ⟨hw,rfl⟩;exact⟨rfl,go hw _ (by simp)⟩
  ·rintro _ ⟨hw,rfl⟩;exact h0 hw
 ·refine⟨rfl,tp,⟨rfl,by first|lia|omega⟩,?_,?_⟩
  ·rintro _ ⟨hw,rfl⟩;exact⟨rfl,go hw _ (by simp)⟩
  ·rintro _ ⟨hw,rfl⟩;exact h0 hw
theorem qx(h:Tx.mz tp=true):Tx.val tp<10^64:=by
 obtain⟨_,h2,h3⟩:=Tx.whl_iff.mp h;have key:∀(l:List Nat) (a:Nat),NumText.AllDigits l->l.foldl (fun acc c=>acc*10+(c-48)) a<(a+1)*10^l.length:=fun l=>by
  induction l with
  | nil=>intro a _;simp
  | cons c l ih =>
   intro a hl;have h1:=ih (a*10+(c-48)) fun x hx=>hl x (aq _ hx);have hc:=hl c ar;rw [List.foldl_cons,aJ,de,cF (10^l.length) 10,← Nat.mul_assoc];exact ak h1 (Nat.mul_le_mul_right _ (by first|lia|omega))
 have h4:=key _ 0 h3;rw [← Tx.jz,Nat.zero_add,Nat.one_mul] at h4;exact ak h4 (aZ (by decide) (by first|lia|omega))
theorem Bs(lt:tp.length<=90000)(lb:bt.length<=90000)(ls:sl.length<=5)(hk:Tx.below z=k)(h1:Tx.tO z tp sl bt->Q (fD (Fr.top (Tx.sg z*(Tx.val tp:Int)) (Tx.tZ sl bt)) (Fr.qq (Tx.sg z*(Tx.val tp:Int)) (Tx.tZ sl bt))))(h2:¬ Tx.tO z tp sl bt->E (t9 x8)) :
  (ii x8 E).run (jA Q) [.val (.str z),.val (.bl k),.val (.str tp),.val (.str sl),.val (.str bt),.no,.no]:=by
 have es:(if k=true then (-1:Int) else 1)=Tx.sg z:=by unfold Tx.sg;rw [hk]
 have r3:∀ n:Nat,n=Tx.tZ sl bt->n<10^64->(sl.length≠0->Tx.mz bt=true)->(iJ x8 E).run (jA Q) [.val (.str z),.val (.bl k),.val (.str tp),.val (.str sl),.val (.str bt),.val (.int n),.no]:=by
  intro n en hn hb;refine oZ (p:=(n:Int)=0) (fun c=>?_) (fun c=>?_)
  ·exact⟨_,rfl,.inl ⟨0,rfl⟩,h2 fun g=>g.2.2.1 (by rw [← en];(first|lia|omega))⟩
  ·refine Br (by first|lia|omega) hn lt (fun h=>h2 fun g=>?_) (fun hw e=>?_) (fun hw e=>h2 fun g=>?_) qx
   ·rw [g.1] at h;cases h
   ·rw [es,en] at e ⊢;exact h1 ⟨hw,hb,by rw [← en];(first|lia|omega),e⟩
   ·rw [es,en] at e;exact e g.2.2.2
 refine⟨ko (by first|lia|omega),?_⟩;show if ((sl.length:Int) != 0)=true then _ else _;refine zc (fun c=>?_) (fun c=>?_)
 ·have c:sl.length≠0:=by
   intro q;rw [q] at c;exact absurd c (by decide)
  refine⟨rfl,bt,⟨rfl,by first|lia|omega⟩,?_,?_⟩
  ·rintro _ ⟨hw,rfl⟩;exact r3 _ (by unfold Tx.tZ;rw [if_neg c]) (qx hw) fun _=>hw
  ·rintro _ ⟨hw,rfl⟩;exact h2 fun g=>absurd (g.2.1 c) (by rw [hw];exact ao)
 ·have c:sl.length=0:=by
   have:(sl.length:Int)=0:=by simpa using c
   (first|lia|omega)
  exact r3 1 (by unfold Tx.tZ;rw [if_pos c]) (by decide +kernel) fun q=>absurd c q
end
theorem pN(z:Str):(Tx.rest z).length<=z.length:=by
 cases h:Tx.below z with
 | false=>rw [Tx.lH h];exact aj _
 | true =>
  have:=Tx.lq h;rw [Tx.jz,Tx.jz,this,aJ]
  (first|lia|omega)
theorem fE:sE 7 (fX x8) (dY x8):=by
 rintro ds Q E _ ⟨z,⟨rfl,hz⟩,q,r⟩;have lr:=pN z;have hp:=StrLaws.partition_sum (Tx.rest z) "/";have hl:(Txt.partition (Tx.rest z) "/").1.length+(Txt.partition (Tx.rest z) "/").2.1.length+(Txt.partition (Tx.rest z) "/").2.2.length=(Tx.rest z).length:=by
  conv=>rhs;rw [← hp]
  rw [Str.length_append,Str.length_append]
 have ls:(Txt.partition (Tx.rest z) "/").2.1.length<=5:=by
  unfold Txt.partition;split
  ·exact (by decide +kernel:("/" : Str).length<=5)
  ·exact (by decide +kernel:(Str.empty).length<=5)
 have mn:=Tx.sO z (tp:=(Txt.partition (Tx.rest z) "/").1) (sl:=(Txt.partition (Tx.rest z) "/").2.1) (bt:=(Txt.partition (Tx.rest z) "/").2.2) rfl;have fin:=Bs (x8:=x8) (Q:=Q) (E:=E) (z:=z) (k:=Tx.below z) (tp:=(Txt.partition (Tx.rest z) "/").1) (sl:=(Txt.partition (Tx.rest z) "/").2.1) (bt:=(Txt.partition (Tx.rest z) "/").2.2) (by first|lia|omega) (by first|lia|omega) ls rfl
  (fun g=>by
   rcases mn with⟨_,e⟩|⟨n,_⟩
   ·exact q _ ⟨_,_,e,rfl⟩
   ·exact absurd g n)
  (fun g=>by
   rcases mn with⟨n,_⟩|⟨_,e⟩
   ·exact absurd n g
   ·exact r _ ⟨e,rfl⟩)
 refine⟨_,rfl,_,rfl,?_⟩;have go:∀ y:Str,y=Tx.rest z->metD .part y (.str "/") fun d=>(gTp [2,3,4]).run d [.val (.str z),.val (.bl (Tx.below z)),.no,.no,.no,.no,.no] fun s=>(ii x8 E).run (jA Q) s:=by
  rintro _ rfl;exact⟨_,rfl,ko (by first|lia|omega),by decide +kernel,rfl,fin⟩
 show if Tx.below z=true then _ else _;refine zc (fun c=>?_) (fun c=>?_)
 ·exact⟨ko (by first|lia|omega),_,rfl,go _ (by unfold Tx.rest;rw [if_pos c])⟩
 ·exact⟨_,rfl,go _ (Tx.lH c).symm⟩
end Dp
namespace Ds
section
open PySem L2 Dp
variable{X:Cx}
def bTb:List (Str×Bool×String×BB):=[("len",true, "len",⟨bLen,bLen.mono⟩),("abs",true, "abs",⟨bAbs,bAbs.mono⟩),("all",true, "all",⟨bAll,bAll.mono⟩),("any",true, "any",⟨bAny,bAny.mono⟩),("int",false, "int",⟨bInt,bInt.mono⟩),("str",false, "str",⟨bStr,bStr.mono⟩)]
def Cw(x:Str):Option (Bool×String×BB):=bTb.lookup x
theorem zw{j:Nat}(hr:Room j X.A)(hc:X.calm=true)(B:Bl X.mg){x:Str}{k:Bool}{id:String}{o:BB}(h:Cw x=some (k,id,o)):X.mg x=none/\x ≠ "__name__" /\ (x == ("__debug__" : Str))=false/\(if k then bootBuiltins x=some (.builtin id)/\RB X (.builtin id) o.run else bootBuiltins x=some (.type id)/\RB X (.type id) o.run):=by
 have m:=ju h;unfold bTb at m;rcases ai.mp m with e|m
 ·cases e;exact⟨B.len,by decide,by decide,my,ur⟩
 rcases ai.mp m with e|m
 ·cases e;exact⟨B.abs,by decide,by decide,zq,yt⟩
 rcases ai.mp m with e|m
 ·cases e;exact⟨B.all,by decide,by decide,vJ,yr hc⟩
 rcases ai.mp m with e|m
 ·cases e;exact⟨B.any,by decide,by decide,zp,yq hc⟩
 rcases ai.mp m with e|m
 ·cases e;exact⟨B.int,by decide,by decide,vI,yp⟩
 rcases ai.mp m with e|m
 ·cases e;exact⟨B.str,by decide,by decide,vH,yo⟩
 cases m
end
section
open PySem L2 Dp
variable{K:Frag}{Jx:Hp->Prop}{f:Addr}{O O':List Addr}{H H':Hp}{X:Cx}{σ:L2.St}{ss:SS}{a b:Expr}{ta tb tc:TEd}{tA tB:TTd}{pos:Pos}{c:Cs}
structure Xt where
 xi:List (Str×(Addr->Option Bool)):=[]
 xf:List (Str×(Addr->Bool)):=[]
 x0:List (Str×Addr):=[]
 xc:List (Str×Nat×Addr×Str):=[]
 gx:List (Str×Nat×Addr×SpX):=[]
 E:D->Prop:=fun _=>True
 lp:Bool:=true
 tab:List (Addr×Nat×SpX):=[]
 xm:List (Str×Addr×(Addr->Bool)):=[]
 xs:List (List Str×(Addr->Option Bool)):=[]
def Xt.inn(t:Xt):Xt:={ t with gx:=[] }
structure XtOk (P:Program)(w:World)(K:Frag)(mg:Str->Option Value)(base:Heap)(t:Xt):Prop where
 xi:∀ y g,(y,g)∈t.xi->∃ c,((∃ a,c=Value.ref a/\mg y=some c)\/(∃ n,c=Value.type n/\mg y=none/\y ≠ "__name__" /\ bootBuiltins y=some c))/\∀ C k,g C=some k->∃ N cd,Xi K C N cd/\PySem.W.kitOne K (.ref C) c=some k
 xf:∀ x ok,(x,ok)∈t.xf->∀ C,ok C=true->∃ N cd,Ex8.Xc K C N cd/\kG K C x
 x0:∀ y C,(y,C)∈t.x0->mg y=some (.ref C)/\PySem.W.keepIn K (.ref C)=true/\∃ N,Ex8.lA K C N=true/\PySem.W.findIn K (.ref C) "__init__" = some (some (.builtin "ValueError.__init__"))
 xc:∀ y i C x,(y,i,C,x)∈t.xc->XDef P w K mg base y i C x
 gx:∀ x j g s,(x,j,g,s)∈t.gx->∃ ps,DefX P w K mg base x g j ps (j6 K s)
 tab:∀ g j s,(g,j,s)∈t.tab->∃ x ps,DefX P w K mg base x g j ps (j6 K s)
 xs:∀ ns g,(ns,g)∈t.xs->∃ as:List Addr,as.length<=100/\ns.map mg=as.map (fun a=>some (Value.ref a))/\∀ C k,g C=some k->∃ N cd,Xi K C N cd/\PySem.W.kitAny K (.ref C) (as.map Value.ref)=some k
 xm:∀ y Nc m,(y,Nc,m)∈t.xm->mg y=some (.ref Nc)/\∀ C,m C=true->PySem.W.exmOne K (.ref C) (.ref Nc)=some true
theorem XtOk.no{P:Program}{w:World}{K:Frag}{mg:Str->Option Value}{base:Heap}:XtOk P w K mg base {}:=⟨fun _ _ h=>absurd h ah,fun _ _ h=>absurd h ah,fun _ _ h=>absurd h ah,fun _ _ _ _ h=>absurd h ah,fun _ _ _ _ h=>absurd h ah,fun _ _ _ h=>absurd h ah,fun _ _ h=>absurd h ah,fun _ _ _ h=>absurd h ah⟩
structure Tc where
 N:List Str
 sc:Scope
 G:List (Str×Nat×SpB)
 gc:List (Str×D)
 k:Nat
 fz:List (Nat×List Nat):=[]
 own:List Nat:=[]
 mu:List Nat:=[]
 gn:List (Str×Nat×SpB):=[]
 xt:Xt:={}
def Tc.frz(T:Tc)(p:Pos):List Nat:=(T.fz.lookup p.line).getD []
def wO(x:Str):List Str->Option Nat
 | []=>none
 | y::r=>if x=y then some 0 else (wO x r).map (· + 1)
theorem oY{x:Str}:∀{N:List Str} {i:Nat},wO x N=some i->N[i]? = some x
 | [],_,h=>by cases h
 | y::r,i,h=>by
  unfold wO at h;by_cases e:x=y
  ·rw [if_pos e] at h;cases h;rw [e];rfl
  ·rw [if_neg e] at h;obtain⟨j,h1,rfl⟩:=aa.mp h;rw [ci];exact oY h1
def zF:Option NameKind->Bool
 | some .local=>true|some .cell=>true|some .free=>true|_=>false
def yP(x:Str):Bool:=!(x == ("__debug__" : Str)) && !(x == ("__classdict__" : Str))
def Tc.slot(T:Tc)(x:Str):Option Nat:=if zF (T.sc.names.lookup x) && yP x then wO x T.N else none
def Tc.isG(T:Tc)(x:Str):Bool:=(T.sc.names.lookup x == some .globalImplicit) && yP x
structure CtxOk (T:Tc)(X:Cx)(Jx:Hp->Prop):Prop where
 N:X.N=T.N
 nd:X.N.Nodup
 calm:X.calm=true
 room:Room T.k X.A
 vis:∀ x,zF (T.sc.names.lookup x)=true->xn X.env.scope x
 gl:∀ x,T.sc.names.lookup x=some .globalImplicit->Gl X x
 loc:∀ x,T.sc.names.lookup x=some .local->X.env.scope.names.lookup x=some .local
 cf:∀ x,(T.sc.names.lookup x=some .cell\/T.sc.names.lookup x=some .free)->(X.env.scope.names.lookup x=some .cell\/X.env.scope.names.lookup x=some .free)
 fn:∀ x j s,(x,j,s)∈T.G->∃ ps,Def X.prog X.w X.K X.mg X.base x j ps (mM X.K s.n s.run)
 gc:∀ x d,(x,d)∈T.gc->∃ v u,X.mg x=some u/\RelV v u/\∀ f O H,Rp X.K f O H d v
 bl:Bl X.mg
 cel:∀ x,T.sc.names.lookup x=some .cell->X.env.scope.names.lookup x=some .cell/\X.fn x=true
 gn:∀ x j s,(x,j,s)∈T.gn->∃ ps,Def X.prog X.w X.K X.mg X.base x j ps (tY X.K s.n s.run)
 xt:XtOk X.prog X.w X.K X.mg X.base T.xt
 px:T.xt.gx≠[]->∃ EX,kF (rE X.prog X.w) X EX/\∀ H',Jx H'->pw T.xt.E EX H'
theorem rY{x:Str}(h:yP x=true):(x == ("__debug__" : Str))=false:=by
 unfold yP at h;rw [ad] at h;exact bo _ |>.mp h.1
theorem uT{x:Str}(h:yP x=true):(x == ("__classdict__" : Str))=false:=by
 unfold yP at h;rw [ad] at h;exact bo _ |>.mp h.2
variable{T:Tc}
theorem CtxOk.var(C:CtxOk T X Jx){x:Str}{i:Nat}{p:Pos}(h:T.slot x=some i):PE X (.Name x p) (lC i):=by
 unfold Tc.slot at h;split at h
 ·rename_i e;obtain⟨e1,e2⟩:=ad.mp e;exact lh (by rw [C.N];exact oY h) (C.vis x e1) (rY e2) (uT e2)
 ·cases h
theorem CtxOk.slot(C:CtxOk T X Jx){x:Str}{i:Nat}(h:T.slot x=some i):X.N[i]? = some x:=by
 unfold Tc.slot at h;split at h
 ·rw [C.N];exact oY h
 ·cases h
def t3:Option NameKind->Bool
 | some .local=>true|some .cell=>true|_=>false
theorem CtxOk.tgt(C:CtxOk T X Jx){x:Str}{i:Nat}{p:Pos}(hl:t3 (T.sc.names.lookup x)=true)(hs:T.slot x=some i):PG X (.Name x p) (oh i):=by
 cases q:T.sc.names.lookup x with
 | none=>rw [q] at hl;cases hl
 | some k =>
  rw [q] at hl;cases k <;> first|(cases hl;done)|skip
  ·exact oG C.nd (C.slot hs) (.inl (C.loc x q)) (.inr (C.loc x q))
  ·exact oG C.nd (C.slot hs) (.inr (C.cel x q).1) (.inl (C.cel x q).2)
theorem CtxOk.isG(C:CtxOk T X Jx){x:Str}(h:T.isG x=true):Gl X x/\(x == ("__debug__" : Str))=false:=by
 obtain⟨e1,e2⟩:=ad.mp h;exact⟨C.gl x (eq_of_beq e1),rY e2⟩
def jx:Expr->Bool
 | .Starred .. => false | .Slice .. => false | .Set .. => false | .SetComp .. => false | .DictComp .. => false
 | _=>true
theorem jm{e:Expr}(h:jx e=true)(es:List Expr)(env:Env):starEach (e::es) env=(false,eval e env)::starEach es env:=by
 cases e <;> first|rfl|cases h
theorem r0{e:Expr}(h:jx e=true):mV e:=by
 cases e <;> first|exact fun _ _=>rfl|cases h
theorem mT{e:Expr}(h:jx e=true)(op:CmpOp):behindInMarks op e=false:=by
 cases e <;> first|rfl|cases h
theorem ml{e:Expr}(h:jx e=true)(env:Env)(x:Value):foldedSetIterable e env x=pure x:=by
 cases e <;> first|rfl|cases h
def kh:Expr->Bool
 | .ListComp .. => true | .SetComp .. => true | .DictComp .. => true
 | _=>false
theorem kL{e:Expr}(h:kh e=false)(t:Option Expr)(l:Nat)(env:Env):swapsWith e t l env=pure false:=by
 cases e <;> first|rfl|cases h
def xS:Expr->Bool
 | .UnaryOp .Not _ _=>false | .BoolOp .. => false | .IfExp .. => false | .Compare .. => false
 | _=>true
theorem vG{e:Expr}(h:xS e=true)(env:Env)(whole:Sem Value):isTrue e env whole=(do let v ← whole;standAt e.pos;holding [v] (truthy v)):=by
 cases e with
 | UnaryOp op a p=>cases op <;> first|rfl|cases h
 | BoolOp=>cases h
 | IfExp=>cases h
 | Compare=>cases h
 | _=>rfl
def j3(N:List Str)(scope:Scope):List Nat:=(List.range N.length).filter fun i=>t3 (scope.names.lookup (N.getD i ""))
def ul(out scope:Scope):Bool:=decide (scope.kind = .function) && scope.names.all (fun y=>decide (scope.names.lookup y.1=some y.2)) && scope.names.all (fun y=>decide (y.2 ≠ .free) || decide (out.names.lookup y.1=some .cell) || decide (out.names.lookup y.1=some .free))
theorem CtxOk.compS(C:CtxOk T X Jx){scope:Scope}(h:ul T.sc scope=true):CompS X.N X.env.scope scope (j3 T.N scope):=by
 unfold ul at h;rw [ad,ad] at h;obtain⟨⟨h1,h2⟩,h3⟩:=h;have one:∀ y∈scope.names,scope.names.lookup y.1=some y.2:=fun y hy=>of_decide_eq_true (aQ.mp h2 y hy);refine⟨of_decide_eq_true h1,one,fun y hy e=>?_,fun y hy e=>e ▸ one y hy,fun i hi e=>?_⟩
 ·have:=aQ.mp h3 y hy;rw [cP,cP] at this;rcases this with (w|w)|w
  ·exact absurd e (of_decide_eq_true w)
  ·exact C.cf _ (.inl (of_decide_eq_true w))
  ·exact C.cf _ (.inr (of_decide_eq_true w))
 ·rw [C.N] at hi e;exact bh.mpr ⟨cU.mpr hi,by rcases e with e|e <;> rw [e] <;> rfl⟩
theorem CtxOk.inner(C:CtxOk T X Jx){scope:Scope}(s2:Shared)(H2:Hp)(fp:List Addr)(pins:List (Addr×Obj))(A:Addr):CtxOk { T with sc:=scope,xt:=T.xt.inn } (kS X scope s2 H2 fp pins A) Jx where
 N:=C.N
 nd:=C.nd
 calm:=C.calm
 room:=C.room
 vis:=fun x h=>by
  have e:(kS X scope s2 H2 fp pins A).env.scope.names.lookup x=(scope.names.lookup x).map (lz X.env x):=lM;have h:zF (scope.names.lookup x)=true:=h;unfold xn;rw [e];cases q:scope.names.lookup x with
  | none=>rw [q] at h;cases h
  | some k =>
   rw [q] at h;cases k
   ·exact .inl rfl
   ·exact .inr (.inl rfl)
   ·show some (lz X.env x .free)=_\/some (lz X.env x .free)=_\/some (lz X.env x .free)=_;unfold lz;split
    ·exact .inr (.inl rfl)
    ·exact .inr (.inr rfl)
   ·cases h
   ·cases h
 gl:=fun x h=>by
  have e:(kS X scope s2 H2 fp pins A).env.scope.names.lookup x=(scope.names.lookup x).map (lz X.env x):=lM;have h:scope.names.lookup x=some .globalImplicit:=h;unfold Gl Env.kindOf;rw [e,h];rfl
 loc:=fun x h=>by
  have e:(kS X scope s2 H2 fp pins A).env.scope.names.lookup x=(scope.names.lookup x).map (lz X.env x):=lM;have h:scope.names.lookup x=some .local:=h;rw [e,h];rfl
 cf:=fun x h=>by
  have e:(kS X scope s2 H2 fp pins A).env.scope.names.lookup x=(scope.names.lookup x).map (lz X.env x):=lM;have h:scope.names.lookup x=some .cell\/scope.names.lookup x=some .free:=h;rw [e];rcases h with h|h
  ·rw [h];exact .inl rfl
  ·rw [h];show some (lz X.env x .free)=_\/some (lz X.env x .free)=_;unfold lz;split
   ·exact .inl rfl
   ·exact .inr rfl
 fn:=C.fn
 gc:=C.gc
 bl:=C.bl
 cel:=fun x h=>by
  have e:(kS X scope s2 H2 fp pins A).env.scope.names.lookup x=(scope.names.lookup x).map (lz X.env x):=lM;have h:scope.names.lookup x=some .cell:=h;refine⟨by rw [e,h];rfl,?_⟩;show (scope.names.lookup x == some .cell)=true;rw [h];rfl
 xt:=⟨C.xt.xi,C.xt.xf,C.xt.x0,C.xt.xc,fun _ _ _ _ h=>absurd h ah,C.xt.tab,C.xt.xs,C.xt.xm⟩
 gn:=C.gn
 px:=fun h=>absurd rfl h
def A9:Const->Option D
 | .int i=>some (.int i) | .bool b=>some (.bl b) | .str x=>some (.str x) | .none=>some .non|_=>none
def AA(T:Tc)(x:Str):Option D:=T.gc.lookup x
def qE(T:Tc):List Expr->Option (List Nat)
 | []=>some []
 | .Name x _::r=>if t3 (T.sc.names.lookup x)=true then (T.slot x).bind fun i=>(qE T r).map (i :: ·) else none
 | _=>none
def AX(T:Tc):Expr->Option TGd
 | .Name x _=>if t3 (T.sc.names.lookup x)=true then (T.slot x).map gNm else none
 | .Tuple es _ _=>(qE T es).map gTp
 | _=>none
def oX(T:Tc)(x:Str)(as:List Expr):Option Nat:=if x = "len" then (match as with
 | [.Name y _]=>(T.slot y).bind fun i=>if T.mu.contains i then some i else none
 | _=>none) else none
theorem tE{x:Str}{as:List Expr}{i:Nat}(h:oX T x as=some i):x = "len" /\ ∃ y p,as=[.Name y p]/\T.slot y=some i:=by
 unfold oX at h;split at h
 ·rename_i ex;split at h
  ·rename_i y p;obtain⟨j,h1,h⟩:=ae.mp h;split at h
   ·cases h;exact⟨ex,y,p,rfl,h1⟩
   ·cases h
  ·cases h
 ·cases h
abbrev FE:=Expr->Option TEd
abbrev FT:=Expr->Option TTd
abbrev FA:=List Expr->Option TAd
def two(E:FE)(a b:Expr)(k:TEd->TEd->TEd):Option TEd:=(E a).bind fun ta=>(E b).map fun tb=>k ta tb
def AJ(E:FE)(a:Expr):List CmpOp->List Expr->Option TEd
 | [op],[b]=>if jx b then two E a b (d7 op) else none
 | [op,op'],[b,c]=>if jx b && jx c then (E a).bind fun ta=>(E b).bind fun tb=>(E c).map fun tc=>eJ op op' ta tb tc else none
 | _,_=>none
def AI(E:FE)(a:Expr):List CmpOp->List Expr->Option TTd
 | [op],[b]=>if jx b then (two E a b (d7 op)).map dZ else none
 | [op,op'],[b,c]=>if jx b && jx c then (E a).bind fun ta=>(E b).bind fun tb=>(E c).map fun tc=>dZ (eJ op op' ta tb tc) else none
 | _,_=>none
def Cf(E:FE)(a:Expr):UnaryOp->Option TEd
 | .USub=>(E a).map hW
 | .Not=>(E a).map iC
 | _=>none
def Cv(E:FE)(p:Pos)(op:BoolOp):List Expr->Option TEd
 | [a]=>E a
 | a::b::r=>(E a).bind fun ta=>(E (.BoolOp op (b::r) p)).map fun tb=>match op with | .And=>iT ta tb | .Or=>dOr ta tb
 | []=>none
def Cu(F:FT)(p:Pos)(op:BoolOp):List Expr->Option TTd
 | [a]=>F a
 | a::b::r=>(F a).bind fun ta=>(F (.BoolOp op (b::r) p)).map fun tb=>match op with | .And=>fP ta tb | .Or=>eZ ta tb
 | []=>none
def pX(E:FE):Option Expr->Option TOd
 | none=>some dNo
 | some e=>(E e).map eH
def wS:Expr->Bool
 | .UnaryOp .USub (.Constant (.int i) _ _) _=>i == 1
 | _=>false
def zG(k:Int):Expr->Bool
 | .Constant (.int i) _ _=>i == k
 | _=>false
def yQ(E:FE)(a:Expr)(lo hi:Option Expr)(m:Expr):Option TEd:=match lo with
 | some l=>if zG 1 l && hi.isNone && zG 2 m then (E a).map iG else none
 | none=>none
def BF(T:Tc)(x:Str):Option TEd:=match T.slot x with
 | some i=>some (dQ i)
 | none=>if T.isG x then (AA T x).map dC else none
def uO(T:Tc):Expr->Option Nat
 | .Name x _=>(T.slot x).bind fun i=>if T.mu.contains i then some i else none
 | _=>none
def Cp(E:FE)(T:Tc)(a b:Expr):Option TEd:=if jx b then (match uO T a with
  | some i=>(E b).map (iU i)
  | none=>two E a b dIx) else none
def zZ(E:FE)(T:Tc)(a:Expr):Expr->Option TEd
 | .Slice lo hi st _=>(match st with
  | none=>(E a).bind fun ta=>(pX E lo).bind fun tl=>(pX E hi).map fun tu=>dSl ta tl tu
  | some m=>if lo.isNone && hi.isNone && wS m then (E a).map iD else yQ E a lo hi m)
 | b=>Cp E T a b
def AZ(T:Tc):List Expr->Option (List Str)
 | []=>some []
 | .Name y _::r=>if T.isG y then (AZ T r).map (y :: ·) else none
 | _=>none
def vE(E:FE)(A:FA)(T:Tc)(x:Str)(as:List Expr):Option TEd:=match T.G.lookup x with
 | some (j,s)=>if decide (j<=T.k) && !as.isEmpty then (A as).map (dU s) else none
 | none=>match T.xt.gx.lookup x with
 | some (j,_,s)=>if decide (j<=T.k) && !as.isEmpty then (A as).map (dU (s.at T.xt.E)) else none
 | none=>match T.xt.xc.lookup x with
 | some (i,C,y)=>if decide (i+1<=T.k) && !as.isEmpty then (A as).map (dU (Ch C y)) else none
 | none=>match T.xt.x0.lookup x with
 | some C=>if as.isEmpty then some (iY C) else none
 | none=>if x = "isinstance" then (match as with
   | [a,.Name y _]=>if jx a && T.isG y then (match T.xt.xi.lookup y with
    | some g=>(E a).map (gq g)
    | none=>(qy y).bind fun ty=>(E a).map (iV ty)) else none
   | [a,.Tuple es _ _]=>if jx a then (AZ T es).bind fun ns=>(T.xt.xs.lookup ns).bind fun g=>(E a).map (gq g) else none
   | _=>none)
  else (Cw x).bind fun o=>match oX T x as with
   | some i=>some (gR i)
   | none=>if as.isEmpty then none else (A as).map (dB o.2.2.run o.2.2.mono)
def y6(E:FE)(T:Tc)(tg e:Expr):Option TAd:=match e with
 | .Call (.Name x _) [a] [] _=>if x = "range" then (if jx a && T.isG "range" then (E a).map gS else none)
  else if x = "enumerate" then (match tg with
   | .Tuple .. => if jx a && T.isG "enumerate" then (E a).map gU else none
   | _=>none)
  else if x = "reversed" then (if jx a && T.isG "reversed" then (E a).map gV else none)
  else (E e).map eW
 | .Call (.Name x _) [a,b] [] _=>if x = "range" then (if jx a && jx b && T.isG "range" then (E a).bind fun ta=>(E b).map (gT ta) else none)
  else (E e).map eW
 | e=>(E e).map eW
def sB(I:Option TAd)(E:FE)(F:FT)(T:Tc)(e tg:Expr)(ifs:List Expr)(sc:Scope):Option TEd:=I.bind fun ti=>(AX { T with sc:=sc,xt:=T.xt.inn } tg).bind fun g =>
 if g.tg.all (fun i=>(j3 T.N sc).contains i) then (E e).bind fun te=>(match ifs with
  | []=>some (eN ti (j3 T.N sc) g iB te)
  | [k]=>(F k).map fun tk=>eN ti (j3 T.N sc) g tk te
  | _=>none) else none
def kE(E:FE):FA
 | []=>some dS
 | e::r=>if jx e then (E e).bind fun te=>(kE E r).map fun tr=>dP te tr else none
def xM(E:FE)(T:Tc)(sep m:Str)(ap cp:Pos):List Expr->Option TEd
 | [.Call (.Name y p) [a] [] q]=>if m = "join" then (if (ap.endLine == cp.line) && jx a then (if y = "reversed" then (if T.isG "reversed" then (E a).map (ge sep) else none) else (E (.Call (.Name y p) [a] [] q)).map (gC sep)) else none) else none
 | [a]=>if m = "join" then (if (ap.endLine == cp.line) && jx a then (E a).map (gC sep) else none) else none
 | _=>none
def pf(E:FE)(T:Tc)(cp:Pos)(as:List Expr)(ks:List Keyword):Expr->Option TEd
 | .Name x _=>if ks.isEmpty then (if T.isG x then vE E (kE E) T x as else none) else none
 | .Attribute (.Constant (.str sep) _ _) m ap=>if ks.isEmpty then xM E T sep m ap cp as else none
 | .Attribute (.Name x p) m ap=>if m = "bit_length" then (if ks.isEmpty && as.isEmpty && (ap.endLine == cp.line) then (E (.Name x p)).map ip else none) else u5 E m ap cp as ks (.Name x p)
 | .Attribute (.Subscript a b p) m ap=>u5 E m ap cp as ks (.Subscript a b p)
 | .Attribute (.IfExp k a b p) m ap=>u5 E m ap cp as ks (.IfExp k a b p)
 | _=>none
def ze(E:FE)(T:Tc)(x:Str):Expr->Option TEd
 | .Name y p=>(T.xt.xf.lookup x).bind fun ok=>(E (.Name y p)).map (hZ x ok)
 | .Subscript a b p=>(T.xt.xf.lookup x).bind fun ok=>(E (.Subscript a b p)).map (hZ x ok)
 | _=>none
def vh:List Comprehension->Option (Expr×Expr×List Expr)
 | [⟨tg,it,ifs,0⟩]=>if jx it then some (tg,it,ifs) else none
 | _=>none
mutual
def jJ:Nat->Tc->Expr->Option TEd
 | 0,_,_=>none
 | n+1,T,e=>match e with
  | .Name x _=>BF T x
  | .Constant k _ _=>(A9 k).map dC
  | .BinOp a op b _=>two (jJ n T) a b (dW op)
  | .Compare a ops bs _=>AJ (jJ n T) a ops bs
  | .UnaryOp op a _=>Cf (jJ n T) a op
  | .BoolOp op vs p=>Cv (jJ n T) p op vs
  | .IfExp k a b _=>(pJ n T k).bind fun tk=>two (jJ n T) a b (gQ tk)
  | .Tuple es _ _=>(kE (jJ n T) es).map fH
  | .List es _=>(kE (jJ n T) es).map eX
  | .Subscript a b _=>zZ (jJ n T) T a b
  | .Call g as ks p=>pf (jJ n T) T p as ks g
  | .Attribute a x _=>ze (jJ n T) T x a
  | .ListComp e gs sc _=>if ul T.sc sc then (vh gs).bind fun (tg,it,ifs)=>sB (y6 (jJ n T) T tg it) (jJ n { T with sc:=sc,xt:=T.xt.inn }) (pJ n { T with sc:=sc,xt:=T.xt.inn }) T e tg ifs sc else none
  | _=>none
def pJ:Nat->Tc->Expr->Option TTd
 | 0,_,_=>none
 | n+1,T,e=>match e with
  | .Compare a ops bs _=>AI (jJ n T) a ops bs
  | .UnaryOp op a p=>if op = .Not then (pJ n T a).map eG else (jJ n T (.UnaryOp op a p)).map eM
  | .BoolOp op vs p=>Cu (pJ n T) p op vs
  | .IfExp .. => none
  | e=>(jJ n T e).map eM
end
end
section
open PySem L2 Dp
variable{K:Frag}{Jx:Hp->Prop}{X:Cx}{T:Tc}{pos p p2:Pos}{a b e:Expr}{E:FE}{F:FT}
def nL(X:Cx)(Jx:Hp->Prop)(E:FE):Prop:=∀{e:Expr} {t:TEd},E e=some t->PE X e (LE X.K Jx t)
def A4(X:Cx)(Jx:Hp->Prop)(F:FT):Prop:=∀{e:Expr} {t:TTd},F e=some t->PT X e (LT X.K Jx t)
theorem Az(C:CtxOk T X Jx){x:Str}{d:D}(hg:T.isG x=true)(h:AA T x=some d):PE X (.Name x p) (LE X.K Jx (dC d)):=by
 obtain⟨g1,g2⟩:=C.isG hg;obtain⟨v,u,h1,h2,h3⟩:=C.gc x d (ju h);exact dC.ok (oI g1 h1 h2 g2) h3
theorem ya{k:Const}{d:D}{j:Nat}(h:A9 k=some d):PE X (.Constant k j pos) (LE X.K Jx (dC d)):=by
 cases k <;> first|(cases h;done)|skip
 all_goals (cases h)
 all_goals first|exact dC.ok jj fun _ _ _=>rfl|exact dC.ok uF fun _ _ _=>rfl|exact dC.ok oH fun _ _ _=>rfl|exact dC.ok yG fun _ _ _=>rfl
theorem mN(C:CtxOk T X Jx):∀{es:List Expr} {is:List Nat},qE T es=some is->AS X es (gsAll is)/\(assignEach es X.env).length=is.length/\(assignEach es X.env).findIdx? (·.1)=none
 | [],is,h=>by
  cases h;exact⟨wc,rfl,rfl⟩
 | a::r,is,h=>by
  cases a <;> first|(cases h;done)|skip
  rename_i x p;obtain⟨hl,h⟩:=ac.mp (show (if t3 (T.sc.names.lookup x)=true then (T.slot x).bind fun i=>(qE T r).map (i :: ·) else none)=some is from h);obtain⟨i,h1,h⟩:=ae.mp h;obtain⟨is',h2,rfl⟩:=aa.mp h;obtain⟨q1,q2,q3⟩:=mN C h2;refine⟨uA (C.tgt hl h1) q1 rfl,?_,?_⟩
  ·show ((false,assign (.Name x p) X.env)::assignEach r X.env).length=_;rw [aJ,q2];rfl
  ·show ((false,assign (.Name x p) X.env)::assignEach r X.env).findIdx? (·.1)=none;rw [List.findIdx?_cons,q3];rfl
theorem qF(C:CtxOk T X Jx){e:Expr}{g:TGd}(h:AX T e=some g):PG X e (LG X.K Jx g):=by
 cases e <;> first|(cases h;done)|skip
 ·rename_i x p;obtain⟨hl,h⟩:=ac.mp (show (if t3 (T.sc.names.lookup x)=true then (T.slot x).map gNm else none)=some g from h);obtain⟨i,h1,rfl⟩:=aa.mp h;exact gNm.ok (C.tgt hl h1)
 ·rename_i es k p;obtain⟨is,h1,rfl⟩:=aa.mp (show (qE T es).map gTp=some g from h);obtain⟨q1,q2,q3⟩:=mN C h1;exact gTp.ok (qJ C.calm q1 q2 q3)
theorem lY{k:TEd->TEd->TEd}{t:TEd}(h:two E a b k=some t):∃ ta tb,E a=some ta/\E b=some tb/\t=k ta tb:=by
 obtain⟨ta,h1,h⟩:=ae.mp h;obtain⟨tb,h2,rfl⟩:=aa.mp h;exact⟨ta,tb,h1,h2,rfl⟩
theorem xg(C:CtxOk T X Jx)(ih:nL X Jx E):∀{ops:List CmpOp} {bs:List Expr} {t:TEd},AJ E a ops bs=some t->PE X (.Compare a ops bs pos) (LE X.K Jx t)
 | [op],[b],t,h=>by
  obtain⟨hn,h⟩:=ac.mp h;obtain⟨ta,tb,h1,h2,rfl⟩:=lY h;exact d7.ok C.room (ih h1) (ih h2) (mT hn _)
 | [op,op'],[b,c],t,h=>by
  obtain⟨hn,h⟩:=ac.mp h;obtain⟨n1,n2⟩:=ad.mp hn;obtain⟨ta,h1,h⟩:=ae.mp h;obtain⟨tb,h2,h⟩:=ae.mp h;obtain⟨tc,h3,rfl⟩:=aa.mp h;exact eJ.ok C.room (ih h1) (ih h2) (ih h3) (mT n2 _)
 | [],_,_,h=>by cases h
 | [_],[],_,h=>by cases h
 | [_],_::_::_,_,h=>by cases h
 | [_,_],[],_,h=>by cases h
 | [_,_],[_],_,h=>by cases h
 | [_,_],_::_::_::_,_,h=>by cases h
 | _::_::_::_,_,_,h=>by cases h
theorem xb(C:CtxOk T X Jx)(ih:nL X Jx E):∀{ops:List CmpOp} {bs:List Expr} {t:TTd},AI E a ops bs=some t->PT X (.Compare a ops bs pos) (LT X.K Jx t)
 | [op],[b],t,h=>by
  obtain⟨hn,h⟩:=ac.mp h;obtain⟨t0,h0,rfl⟩:=aa.mp h;obtain⟨ta,tb,h1,h2,rfl⟩:=lY h0;exact d7.test C.room (ih h1) (ih h2) (mT hn _)
 | [op,op'],[b,c],t,h=>by
  obtain⟨hn,h⟩:=ac.mp h;obtain⟨n1,n2⟩:=ad.mp hn;obtain⟨ta,h1,h⟩:=ae.mp h;obtain⟨tb,h2,h⟩:=ae.mp h;obtain⟨tc,h3,rfl⟩:=aa.mp h;exact eJ.test C.room (ih h1) (ih h2) (ih h3) (mT n2 _)
 | [],_,_,h=>by cases h
 | [_],[],_,h=>by cases h
 | [_],_::_::_,_,h=>by cases h
 | [_,_],[],_,h=>by cases h
 | [_,_],[_],_,h=>by cases h
 | [_,_],_::_::_::_,_,h=>by cases h
 | _::_::_::_,_,_,h=>by cases h
theorem xY(ih:nL X Jx E){op:UnaryOp}{t:TEd}(h:Cf E a op=some t):PE X (.UnaryOp op a pos) (LE X.K Jx t):=by
 cases op <;> first|(cases h;done)|skip
 ·obtain⟨ta,h1,rfl⟩:=aa.mp (show (E a).map iC=some t from h);exact iC.ok (ih h1)
 ·obtain⟨ta,h1,rfl⟩:=aa.mp (show (E a).map hW=some t from h);exact hW.ok (ih h1)
theorem zt(ih:nL X Jx E):∀{op:BoolOp} {vs:List Expr} {t:TEd},Cv E p op vs=some t->PE X (.BoolOp op vs p) (LE X.K Jx t)
 | _,[a],_,h=>qL (ih h)
 | .And,a::b::r,t,h=>by
  obtain⟨ta,h1,h⟩:=ae.mp h;obtain⟨tb,h2,rfl⟩:=aa.mp h;exact iT.ok (ih h1) (ih h2)
 | .Or,a::b::r,t,h=>by
  obtain⟨ta,h1,h⟩:=ae.mp h;obtain⟨tb,h2,rfl⟩:=aa.mp h;exact dOr.ok (ih h1) (ih h2)
 | _,[],_,h=>by cases h
theorem zr(ih:A4 X Jx F)(iw:∀{op:BoolOp} {vs:List Expr} {p:Pos} {t:TTd},F (.BoolOp op vs p)=some t->PW X (.BoolOp op vs p) (LT X.K Jx t)):∀{op:BoolOp} {vs:List Expr} {t:TTd},Cu F p op vs=some t->PW X (.BoolOp op vs p) (LT X.K Jx t)
 | .And,[a],_,h=>rP (ih h)
 | .Or,[a],_,h=>yy (ih h)
 | .And,a::b::r,t,h=>by
  obtain⟨ta,h1,h⟩:=ae.mp h;obtain⟨tb,h2,rfl⟩:=aa.mp h;exact fP.ok (ih h1) (iw h2)
 | .Or,a::b::r,t,h=>by
  obtain⟨ta,h1,h⟩:=ae.mp h;obtain⟨tb,h2,rfl⟩:=aa.mp h;exact eZ.ok (ih h1) (iw h2)
 | _,[],_,h=>by cases h
theorem pW(ih:nL X Jx E):∀{o:Option Expr} {t:TOd},pX E o=some t->PO X o (LO X.K Jx t)
 | none,_,h=>by
  cases h;exact dNo.ok
 | some e,t,h=>by
  obtain⟨ta,h1,rfl⟩:=aa.mp h;exact eH.ok (ih h1)
theorem wR{m:Expr}(h:wS m=true):∃ j p1 p3,m = .UnaryOp .USub (.Constant (.int 1) j p1) p3:=by
 unfold wS at h;split at h
 ·rename_i i j p1 p3;have e:i=1:=eq_of_beq h;exact⟨j,p1,p3,by rw [e]⟩
 ·cases h
theorem uN(C:CtxOk T X Jx){i:Nat}(h:uO T a=some i):PE X a (lC i):=by
 cases a <;> first|(cases h;done)|skip
 obtain⟨j,h1,h⟩:=ae.mp h;obtain⟨_,h⟩:=ac.mp h;cases h;exact C.var h1
theorem va{k:Int}{m:Expr}(h:zG k m=true):∃ j p1,m = .Constant (.int k) j p1:=by
 unfold zG at h;split at h
 ·rename_i i j p1;have e:i=k:=eq_of_beq h;exact⟨j,p1,by rw [e]⟩
 ·cases h
theorem wB{lo hi:Option Expr}{m:Expr}{p2:Pos}(ih:nL X Jx E){t:TEd}(h:yQ E a lo hi m=some t):PE X (.Subscript a (.Slice lo hi (some m) p2) pos) (LE X.K Jx t):=by
 cases lo with
 | none=>cases h
 | some l =>
  obtain⟨hm,h⟩:=ac.mp (show (if zG 1 l && hi.isNone && zG 2 m then (E a).map iG else none)=some t from h);obtain⟨hm,m2⟩:=ad.mp hm;obtain⟨l1,h2⟩:=ad.mp hm;cases hi with
  | some _=>cases h2
  | none =>
   obtain⟨j,p1,rfl⟩:=va l1;obtain⟨k,p3,rfl⟩:=va m2;obtain⟨ta,h1,rfl⟩:=aa.mp h;exact iG.ok (ih h1)
theorem vX(C:CtxOk T X Jx)(ih:nL X Jx E){t:TEd}(h:zZ E T a b=some t):PE X (.Subscript a b pos) (LE X.K Jx t):=by
 have key:∀{b:Expr},Cp E T a b=some t->PE X (.Subscript a b pos) (LE X.K Jx t):=fun {b} h=>by
  obtain⟨hn,h⟩:=ac.mp h;cases ho:uO T a with
  | some i =>
   rw [ho] at h;obtain⟨tb,h2,rfl⟩:=aa.mp h;exact iU.ok (uN C ho) (ih h2) (r0 hn)
  | none =>
   rw [ho] at h;obtain⟨ta,tb,h1,h2,rfl⟩:=lY h;exact dIx.ok (ih h1) (ih h2) (r0 hn)
 cases b;case Slice lo hi st p2 =>
  cases st with
  | none =>
   obtain⟨tk,h0,h⟩:=ae.mp (show (E a).bind (fun ta=>(pX E lo).bind fun tl=>(pX E hi).map fun tu=>dSl ta tl tu)=some t from h);obtain⟨ta,h1,h⟩:=ae.mp h;obtain⟨tb,h2,rfl⟩:=aa.mp h;exact dSl.ok (ih h0) (pW ih h1) (pW ih h2)
  | some m =>
   have h:(if lo.isNone && hi.isNone && wS m then (E a).map iD else yQ E a lo hi m)=some t:=h;split at h
   rotate_left
   ·exact wB ih h
   rename_i hm;obtain⟨hm,m1⟩:=ad.mp hm;obtain⟨l1,l2⟩:=ad.mp hm;cases lo <;> cases hi <;> first|(cases l1;done)|(cases l2;done)|skip
   obtain⟨j,p1,p3,rfl⟩:=wR m1;obtain⟨ta,h1,rfl⟩:=aa.mp h;exact iD.ok (k:=0) (ih h1)
 all_goals exact key h
theorem jG(ih:nL X Jx E):∀{es:List Expr} {t:TAd},kE E es=some t->PA X es (LA X.K Jx t)
 | [],t,h=>by
  cases h;exact dS.ok
 | e::r,t,h=>by
  obtain⟨hn,h⟩:=ac.mp h;obtain⟨ta,h1,h⟩:=ae.mp h;obtain⟨tb,h2,rfl⟩:=aa.mp h;exact dP.ok (ih h1) (jG ih h2) (jm hn _ _)
theorem jI{r:List Expr}{t:TAd}(h:kE E (a::r)=some t):starEach (a::r) X.env=(false,eval a X.env)::starEach r X.env:=jm (ac.mp h).1 _ _
theorem nG:∀{r:List Expr} {t:TAd},kE E r=some t->(backTo pos (starEach r X.env)).any (·.1)=false
 | [],_,_=>rfl
 | a::r,t,h=>by
  rw [jI h];obtain⟨hn,h⟩:=ac.mp h;obtain⟨ta,h1,h⟩:=ae.mp h;obtain⟨tb,h2,rfl⟩:=aa.mp h;have:=nG h2;unfold backTo at this ⊢;rw [aY,bM,this];rfl
theorem jL{r:List Expr}{t:TAd}(h:kE E (a::r)=some t):(backTo pos (starEach r X.env)).any (·.1)=false:=by
 obtain⟨hn,h⟩:=ac.mp h;obtain⟨ta,h1,h⟩:=ae.mp h;obtain⟨tb,h2,rfl⟩:=aa.mp h;exact nG h2
theorem uW(C:CtxOk T X Jx):∀{es:List Expr} {ns:List Str} {as:List Addr},AZ T es=some ns->ns.map X.mg=as.map (fun a=>some (Value.ref a))->PA X es (xu as)
 | [],ns,as,h,e=>by
  cases h;cases as with
  | nil=>exact pa_nil
  | cons=>cases e
 | a::r,ns,as,h,e=>by
  cases a <;> first|(cases h;done)|skip
  rename_i y p;obtain⟨hg,h⟩:=ac.mp (show (if T.isG y then (AZ T r).map (y :: ·) else none)=some ns from h);obtain⟨ns',h1,rfl⟩:=aa.mp h;cases as with
  | nil=>cases e
  | cons a as =>
   rw [aY,aY] at e;injection e with e1 e2;obtain⟨g1,g2⟩:=C.isG hg;exact (jg (oI (v:=.ref a) g1 e1 rfl g2) (uW C h1 e2) rfl).weak fun σ H Q q=>q
theorem Cm{α β:Type}[BEq β][LawfulBEq β]{a:β}{v:α}:∀{l:List (β×α)},l.lookup a=some v->(a,v)∈l
 | [],h=>by cases h
 | (b,u)::l,h=>by
  rw [bp] at h;split at h
  ·rename_i e;cases h;rw [eq_of_beq e];exact ar
  ·exact aq _ (Cm h)
theorem wL{m:Str}{k:MK}(h:yU m=some k):m=k.nm:=by
 unfold yU at h;split at h
 ·cases h;assumption
 ·split at h
  ·cases h;assumption
  ·split at h
   ·cases h;assumption
   ·cases h
theorem oU(ih:nL X Jx E){m:Str}{ap cp:Pos}{as:List Expr}{ks:List Keyword}{o:Expr}{t:TEd}(hb:∀ m:Str,attributeBase o m X.env (eval o X.env)=eval o X.env)(h:u5 E m ap cp as ks o=some t):PE X (.Call (.Attribute o m ap) as ks cp) (LE X.K Jx t):=by
 unfold u5 at h;split at h
 ·obtain⟨k,h1,h⟩:=ae.mp h;obtain⟨hk,h⟩:=ac.mp h;obtain⟨hk,n1⟩:=ad.mp hk;obtain⟨k1,k2⟩:=ad.mp hk;obtain⟨t1,h2,h⟩:=ae.mp h;obtain⟨t2,h3,rfl⟩:=aa.mp h;cases bL.mp k1;rw [wL h1];exact ia.ok (ih h2) (ih h3) (hb _) k2 (jm n1 [] _)
 ·cases h
theorem vD(C:CtxOk T X Jx)(ih:nL X Jx E){x:Str}{as:List Expr}{t:TEd}(hg:T.isG x=true)(h:vE E (kE E) T x as=some t):PE X (.Call (.Name x p) as [] pos) (LE X.K Jx t):=by
 obtain⟨g1,g2⟩:=C.isG hg;unfold vE at h;cases e1:T.G.lookup x with
 | some js =>
  obtain⟨j,s⟩:=js;rw [e1] at h;obtain⟨hk,h⟩:=ac.mp h;obtain⟨k1,k2⟩:=ad.mp hk;obtain⟨tb,h2,rfl⟩:=aa.mp h;cases as with
  | nil=>cases k2
  | cons a r =>
   obtain⟨ps,d⟩:=C.fn x j s (ju e1);exact dU.ok (oJ d C.room (jG ih h2) (of_decide_eq_true k1) g1 g2 (jI h2) (jL h2))
 | none =>
  rw [e1] at h;cases e6:T.xt.gx.lookup x with
  | some js =>
   obtain⟨j,g,s⟩:=js;dsimp only at h;rw [e6] at h;obtain⟨hk,h⟩:=ac.mp h;obtain⟨k1,k2⟩:=ad.mp hk;obtain⟨tb,h2,rfl⟩:=aa.mp h;cases as with
   | nil=>cases k2
   | cons a r =>
    obtain⟨ps,d⟩:=C.xt.gx x j g s (ju e6);obtain⟨EX,px,hJ⟩:=C.px fun z=>by rw [z] at e6;cases e6
    exact dU.okX hJ (wf d C.room px (jG ih h2) (of_decide_eq_true k1) g1 g2 (jI h2) (jL h2))
  | none =>
  dsimp only at h;rw [e6] at h;cases e4:T.xt.xc.lookup x with
  | some js =>
   obtain⟨i,Cc,y⟩:=js;dsimp only at h;rw [e4] at h;obtain⟨hk,h⟩:=ac.mp h;obtain⟨k1,k2⟩:=ad.mp hk;obtain⟨tb,h2,rfl⟩:=aa.mp h;cases as with
   | nil=>cases k2
   | cons a r=>exact dU.ok (uB (C.xt.xc x i Cc y (ju e4)) C.room (jG ih h2) (of_decide_eq_true k1) g1 g2 (jI h2) (jL h2))
  | none =>
  dsimp only at h;rw [e4] at h;cases e5:T.xt.x0.lookup x with
  | some Cc =>
   dsimp only at h;rw [e5] at h;obtain⟨hk,h⟩:=ac.mp h;cases h;cases as with
   | cons=>cases hk
   | nil =>
    obtain⟨m1,m2,N,m3,m4⟩:=C.xt.x0 x Cc (ju e5);exact iY.ok m3 m4 m2 g1 m1 g2
  | none =>
  dsimp only at h;rw [e5] at h;by_cases ex:x = "isinstance"
  ·subst ex;dsimp only at h;rw [if_pos rfl] at h;split at h
   ·obtain⟨hn,h⟩:=ac.mp h;obtain⟨n1,n2⟩:=ad.mp hn;split at h
    ·rename_i y _ g e6;obtain⟨tb,h2,rfl⟩:=aa.mp h;obtain⟨c,hc,hk⟩:=C.xt.xi _ _ (ju e6);obtain⟨q1,q2⟩:=C.isG n2;rcases hc with⟨a0,rfl,m1⟩|⟨n0,rfl,m1,m2,m3⟩
     ·exact gq.ok g1 C.bl.isinstance (oI (v:=.ref a0) q1 m1 rfl q2) rfl hk (ih h2) (fun es=>jm n1 es _) rfl
     ·exact gq.ok g1 C.bl.isinstance (jM (v:=.ty n0) q1 m1 m3 rfl m2 q2) rfl hk (ih h2) (fun es=>jm n1 es _) rfl
    ·obtain⟨ty,h1,h⟩:=ae.mp h;obtain⟨tb,h2,rfl⟩:=aa.mp h;exact iV.ok C.bl h1 g1 (C.isG n2).1 (ih h2) fun es=>jm n1 es _
   ·obtain⟨n1,h⟩:=ac.mp h;obtain⟨ns,h1,h⟩:=ae.mp h;obtain⟨g,h2,h⟩:=ae.mp h;obtain⟨tb,h3,rfl⟩:=aa.mp h;obtain⟨as,hl,hm,hk⟩:=C.xt.xs _ _ (Cm h2);exact jc.ok g1 C.bl.isinstance (uW C h1 hm) hl hk (ih h3) fun es=>jm n1 es _
   ·cases h
  ·dsimp only at h;rw [if_neg ex] at h;obtain⟨⟨k,id,o⟩,e0,h3⟩:=ae.mp h;obtain⟨b1,b2,b3,b4⟩:=zw C.room C.calm C.bl e0;cases e2:oX T x as with
   | some i =>
    rw [e2] at h3;have h4:some (gR i)=some t:=h3;obtain⟨rfl,y,p2,rfl,e3⟩:=tE e2;cases h4;exact gR.ok g1 C.bl.len (C.var e3) rfl
   | none =>
    rw [e2] at h3;obtain⟨hne,h5⟩:=cJ.mp (show (if as.isEmpty=true then none else (kE E as).map (dB o.run o.mono))=some t from h3);obtain⟨tb,h2,rfl⟩:=aa.mp h5;cases as with
    | nil=>exact absurd rfl hne
    | cons a r =>
     cases k with
     | true =>
      obtain⟨b5,rr,b6,b7⟩:=b4;exact dB.ok b7 (jt b6 g1 b1 b5 (jG ih h2) b2 b3 (jI h2) (jL h2))
     | false =>
      obtain⟨b5,rr,b6,b7⟩:=b4;exact dB.ok b7 (mh b6 g1 b1 b5 (jG ih h2) b2 b3 (jI h2) (jL h2))
theorem rm(C:CtxOk T X Jx)(ih:nL X Jx E){g:Expr}{as:List Expr}{ks:List Keyword}{t:TEd}(h:pf E T pos as ks g=some t):PE X (.Call g as ks pos) (LE X.K Jx t):=by
 unfold pf at h;split at h
 ·split at h
  ·rename_i k0;obtain⟨hg,h1⟩:=ac.mp h;cases bL.mp k0;exact vD C ih hg h1
  ·cases h
 ·rename_i sep j p1 m ap;obtain⟨k0,h1⟩:=ac.mp h;clear h;cases bL.mp k0;unfold xM at h1;split at h1
  ·obtain⟨k3,h2⟩:=ac.mp h1;clear h1;cases k3;obtain⟨hk,h3⟩:=ac.mp h2;clear h2;obtain⟨k1,k2⟩:=ad.mp hk;split at h3
   ·rename_i ey;subst ey;obtain⟨g1,h3⟩:=ac.mp h3;obtain⟨ta,h4,rfl⟩:=aa.mp h3;exact ge.ok oH (C.isG g1).1 C.bl.reversed C.calm (ih h4) rfl k1 (jm k2 [] _)
   ·obtain⟨ta,h4,rfl⟩:=aa.mp h3;exact gC.ok oH (ih h4) rfl k1 rfl
  ·obtain⟨k3,h2⟩:=ac.mp h1;clear h1;cases k3;obtain⟨hk,h3⟩:=ac.mp h2;obtain⟨k1,k2⟩:=ad.mp hk;obtain⟨ta,h4,rfl⟩:=aa.mp h3;exact gC.ok oH (ih h4) rfl k1 (jm k2 [] _)
  ·cases h1
 ·split at h
  ·rename_i k3;cases k3;obtain⟨hk,h2⟩:=ac.mp h;obtain⟨k1,k2⟩:=ad.mp hk;obtain⟨k4,k5⟩:=ad.mp k1;cases bL.mp k4;cases bL.mp k5;obtain⟨ta,h4,rfl⟩:=aa.mp h2;exact ip.ok (ih h4) rfl k2
  ·exact oU ih (fun _=>rfl) h
 ·exact oU ih (fun _=>rfl) h
 ·exact oU ih (fun _=>rfl) h
 ·cases h
theorem wW(C:CtxOk T X Jx)(ih:nL X Jx E){x:Str}{t:TEd}(h:ze E T x a=some t):PE X (.Attribute a x pos) (LE X.K Jx t):=by
 unfold ze at h;split at h
 ·obtain⟨ok,h1,h⟩:=ae.mp h;obtain⟨ta,h2,rfl⟩:=aa.mp h;exact hZ.ok (C.xt.xf _ _ (ju h1)) (ih h2) rfl
 ·obtain⟨ok,h1,h⟩:=ae.mp h;obtain⟨ta,h2,rfl⟩:=aa.mp h;exact hZ.ok (C.xt.xf _ _ (ju h1)) (ih h2) rfl
 ·cases h
theorem qY(C:CtxOk T X Jx)(ih:nL X Jx E){tg e:Expr}{t:TAd}(h:y6 E T tg e=some t):PI X tg e (LI X.K Jx t):=by
 have wk:(E e).map eW=some t->PI X tg e (LI X.K Jx t):=fun h=>by
  obtain⟨ta,h1,rfl⟩:=aa.mp h;exact eW.ok (ih h1)
 unfold y6 at h;split at h
 ·rename_i x p1 a p2;by_cases ex:x = "range"
  ·subst ex;obtain⟨hn,h⟩:=ac.mp (show (if jx a && T.isG "range" then (E a).map gS else none)=some t from h);obtain⟨n1,n2⟩:=ad.mp hn;obtain⟨ta,h1,rfl⟩:=aa.mp h;exact gS.ok (C.isG n2).1 C.bl.range (ih h1) (jm n1 _ _)
  ·rw [if_neg ex] at h;by_cases ex:x = "enumerate"
   ·subst ex;cases tg <;> first|(cases h;done)|skip
    obtain⟨hn,h⟩:=ac.mp (show (if jx a && T.isG "enumerate" then (E a).map gU else none)=some t from h);obtain⟨n1,n2⟩:=ad.mp hn;obtain⟨ta,h1,rfl⟩:=aa.mp h;exact gU.ok (C.isG n2).1 C.bl.enumerate (ih h1) (jm n1 _ _)
   ·rw [if_neg ex] at h;by_cases ex:x = "reversed"
    ·subst ex;obtain⟨hn,h⟩:=ac.mp (show (if jx a && T.isG "reversed" then (E a).map gV else none)=some t from h);obtain⟨n1,n2⟩:=ad.mp hn;obtain⟨ta,h1,rfl⟩:=aa.mp h;exact gV.ok (C.isG n2).1 C.bl.reversed (ih h1) (jm n1 _ _)
    ·rw [if_neg ex] at h;exact wk h
 ·rename_i x p1 a b p2;by_cases ex:x = "range"
  ·subst ex;obtain⟨hn,h⟩:=ac.mp (show (if jx a && jx b && T.isG "range" then (E a).bind fun ta=>(E b).map (gT ta) else none)=some t from h);obtain⟨n1,n2⟩:=ad.mp hn;obtain⟨n0,n1⟩:=ad.mp n1;obtain⟨ta,h1,h⟩:=ae.mp h;obtain⟨tb,h2,rfl⟩:=aa.mp h;exact gT.ok (C.isG n2).1 C.bl.range (ih h1) (ih h2) (by rw [jm n0,jm n1];rfl) (jm n1 _ _)
  ·rw [if_neg ex] at h;exact wk h
 ·exact wk h
theorem qm{I:Option TAd}{e tg:Expr}{ifs:List Expr}{sc:Scope}{t:TEd}(C:CtxOk T X Jx)(h:sB I E F T e tg ifs sc=some t)(ih:∀ s2 H2 fp pins A,nL (kS X sc s2 H2 fp pins A) Jx E)(ihF:∀ s2 H2 fp pins A,A4 (kS X sc s2 H2 fp pins A) Jx F) :
  ∃ ti g te tk,I=some ti/\t=eN ti (j3 T.N sc) g tk te/\(∀ i∈g.tg,i∈j3 T.N sc)/\(∀ s2 H2 fp pins A,PG (kS X sc s2 H2 fp pins A) tg (LG X.K Jx g))/\(∀ s2 H2 fp pins A,PTs (kS X sc s2 H2 fp pins A) ifs (LT X.K Jx tk))/\∀ s2 H2 fp pins A,PE (kS X sc s2 H2 fp pins A) e (LE X.K Jx te):=by
 obtain⟨ti,h1,h⟩:=ae.mp h;obtain⟨g,h2,h⟩:=ae.mp h;obtain⟨hg,h⟩:=ac.mp h;obtain⟨te,h3,h⟩:=ae.mp h;have hh:∀ i∈g.tg,i∈j3 T.N sc:=fun i hi=>by simpa using aQ.mp hg i hi
 match ifs,h with
 | [],h =>
  cases h;exact⟨ti,g,te,iB,h1,rfl,hh,fun _ _ _ _ _=>qF (C.inner ..) h2,fun _ _ _ _ _=>pts_nil.weak fun σ H Q ⟨f,O,ss,S,q⟩=>q H (Ex.refl S.fl),fun _ _ _ _ _=>ih _ _ _ _ _ h3⟩
 | [k],h =>
  obtain⟨tk,h4,rfl⟩:=aa.mp h;exact⟨ti,g,te,tk,h1,rfl,hh,fun _ _ _ _ _=>qF (C.inner ..) h2,fun _ _ _ _ _=>v6 (ihF _ _ _ _ _ h4),fun _ _ _ _ _=>ih _ _ _ _ _ h3⟩
 | _::_::_,h=>cases h
theorem sk{gs:List Comprehension}{tg it:Expr}{ifs:List Expr}(h:vh gs=some (tg,it,ifs)):gs=[⟨tg,it,ifs,0⟩]/\jx it=true:=by
 unfold vh at h;split at h
 ·obtain⟨hn,h⟩:=ac.mp h;cases h;exact⟨rfl,hn⟩
 ·cases h
structure TrOk (n:Nat):Prop where
 e:∀{T:Tc} {X:Cx} {Jx:Hp->Prop},CtxOk T X Jx->nL X Jx (jJ n T)
 t:∀{T:Tc} {X:Cx} {Jx:Hp->Prop},CtxOk T X Jx->A4 X Jx (pJ n T)
 w:∀{T:Tc} {X:Cx} {Jx:Hp->Prop} {op:BoolOp} {vs:List Expr} {p:Pos} {t:TTd},CtxOk T X Jx->pJ n T (.BoolOp op vs p)=some t->PW X (.BoolOp op vs p) (LT X.K Jx t)
theorem rM(ih:nL X Jx E){t:TTd}(hb:xS e=true)(h:(E e).map eM=some t):PT X e (LT X.K Jx t):=by
 obtain⟨ta,h1,rfl⟩:=aa.mp h;exact eM.ok (ih h1) fun w=>vG hb _ w
theorem lB:∀ n,TrOk n
 | 0=>⟨fun _ _ _ h=>(by cases h),fun _ _ _ h=>(by cases h),fun _ h=>(by cases h)⟩
 | n+1=>by
  have ih:=lB n;have hw:∀{T:Tc} {X:Cx} {Jx:Hp->Prop} {op:BoolOp} {vs:List Expr} {p:Pos} {t:TTd},CtxOk T X Jx->pJ (n+1) T (.BoolOp op vs p)=some t->PW X (.BoolOp op vs p) (LT X.K Jx t):=fun C h=>zr (ih.t C) (ih.w C) h;refine⟨fun {T X Jx} C {e t} h=>?_,fun {T X Jx} C {e t} h=>?_,hw⟩
  ·cases e <;> first|(cases h;done)|skip
   case Name x p =>
    have h:BF T x=some t:=h;unfold BF at h;cases hs:T.slot x with
    | some i =>
     rw [hs] at h;cases h;exact dQ.ok (C.var hs)
    | none =>
     rw [hs] at h;obtain⟨hg,h⟩:=ac.mp h;obtain⟨d,h1,rfl⟩:=aa.mp h;exact Az C hg h1
   case Constant k j p =>
    obtain⟨d,h1,rfl⟩:=aa.mp (show (A9 k).map dC=some t from h);exact ya h1
   case BinOp a op b p =>
    obtain⟨ta,tb,h1,h2,rfl⟩:=lY (show two (jJ n T) a b (dW op)=some t from h);exact dW.ok C.room (ih.e C h1) (ih.e C h2)
   case Compare=>exact xg C (ih.e C) h
   case UnaryOp=>exact xY (ih.e C) h
   case BoolOp=>exact zt (ih.e C) h
   case IfExp k a b p =>
    obtain⟨tk,h0,h⟩:=ae.mp (show (pJ n T k).bind (fun tk=>two (jJ n T) a b (gQ tk))=some t from h);obtain⟨ta,tb,h1,h2,rfl⟩:=lY h;exact gQ.ok (ih.t C h0) (ih.e C h1) (ih.e C h2)
   case Tuple es k p =>
    obtain⟨ta,h1,rfl⟩:=aa.mp (show (kE (jJ n T) es).map fH=some t from h);exact fH.ok (jG (ih.e C) h1)
   case List es p =>
    obtain⟨ta,h1,rfl⟩:=aa.mp (show (kE (jJ n T) es).map eX=some t from h);exact eX.ok (jG (ih.e C) h1)
   case Subscript=>exact vX C (ih.e C) h
   case Call g as ks p =>
    exact rm C (ih.e C) h
   case Attribute a x p=>exact wW C (ih.e C) h
   case ListComp e gs sc p =>
    obtain⟨hs,h⟩:=ac.mp (show (if ul T.sc sc then (vh gs).bind fun (tg,it,ifs)=>sB (y6 (jJ n T) T tg it) (jJ n { T with sc:=sc,xt:=T.xt.inn }) (pJ n { T with sc:=sc,xt:=T.xt.inn }) T e tg ifs sc else none)=some t from h);obtain⟨⟨tg,it,ifs⟩,h1,h2⟩:=ae.mp h;obtain⟨rfl,hn⟩:=sk h1;obtain⟨ti,g,te,tk,q1,rfl,q2,q3,q4,q5⟩:=qm C h2 (fun _ _ _ _ _=>ih.e (C.inner ..)) (fun _ _ _ _ _=>ih.t (C.inner ..));exact eN.ok C.calm (C.compS hs) (qY C (ih.e C) q1) q3 q4 q5 (fun x=>ml hn _ x) q2
  ·cases e;case Compare=>exact xb C (ih.e C) h
   case UnaryOp op a p =>
    have h:(if op = .Not then (pJ n T a).map eG else (jJ n T (.UnaryOp op a p)).map eM)=some t:=h;by_cases eo:op = .Not
    ·subst eo;obtain⟨ta,h1,rfl⟩:=aa.mp (show (pJ n T a).map eG=some t from h);exact eG.ok (ih.t C h1)
    ·rw [if_neg eo] at h;refine rM (ih.e C) ?_ h;cases op <;> first|rfl|exact absurd rfl eo
   case BoolOp=>exact (hw C h).pt
   case IfExp=>cases h
   all_goals exact rM (ih.e C) rfl h
end
section
open PySem L2 Dp
variable{K:Frag}{Jx:Hp->Prop}{X:Cx}{T:Tc}{pos:Pos}
structure CtxS (T:Tc)(X:Cx)(Jx:Hp->Prop):Prop extends CtxOk T X Jx where
 scope:X.env.scope=T.sc
 bk:X.env.blockKind = .function
 xe:T.xt.lp=true->X.xe=fun _ _=>False
 fnT:∀ x,X.fn x=true
 ro:T.xt.lp=false->∃ EX,nJ X EX/\∀ H',Jx H'->pw T.xt.E EX H'
 stk:X.stack=X.env::X.outer/\X.env.frame=some X.env.locals
theorem CtxS.L(C:CtxS T X Jx){x:Str}(h:t3 (T.sc.names.lookup x)=true):tX X.env.scope x:=by
 unfold L2.tX;rw [C.scope];cases q:T.sc.names.lookup x with
 | none=>rw [q] at h;cases h
 | some k=>rw [q] at h;cases k <;> first|exact .inl rfl|exact .inr rfl|cases h
theorem jd.ok{fz:List Nat}{scope:Scope}{hide:List Nat}{it:TAd}{g:TGd}{c:TTd}{e:TEd}{tg iter elt:Expr}{ifs:List Expr}{i:Nat}{y:Str}{py ep:Pos}(hc:X.calm=true)(hN:X.N.Nodup)(hy:X.N[i]? = some y)(hl:tX X.env.scope y)(Sc:CompS X.N X.env.scope scope hide)(hi:PI X tg iter (LI X.K Jx it))
  (hg:∀ s2 H2 fp pins C,PG (kS X scope s2 H2 fp pins C) tg (LG X.K Jx g)) (ht:∀ s2 H2 fp pins C,PTs (kS X scope s2 H2 fp pins C) ifs (LT X.K Jx c)) (he:∀ s2 H2 fp pins C,PE (kS X scope s2 H2 fp pins C) elt (LE X.K Jx e))
  (hs:∀ x,foldedSetIterable iter X.env x=pure x) (hh:∀ i∈g.tg,i∈hide) (hsw:swapsWith (.ListComp elt [⟨tg,iter,ifs,0⟩] scope ep) (some (.Name y py)) pos.line X.env=pure true) (hf:X.fn y=true\/X.env.scope.names.lookup y=some .local) :
  PS X (.Assign [.Name y py] (.ListComp elt [⟨tg,iter,ifs,0⟩] scope ep) pos) (LS X.K Jx (d8 fz (gNm i) (eN it hide g c e))) :=
 (v8 (spos:=pos) hc hN hy hl Sc hi hg ht he hs hsw hf).weak fun D σ H ⟨c0,O,ss,R,q⟩=>by
  obtain⟨O',R⟩:=R.frz (fz:=fz);refine⟨c0.f,O',_,R.sl,it.mono (fun ds q J H1 e1 D0=>?_) q⟩;refine compD.ok (R.sl.ex e1) hh D0 (compD.mono (fun d q v H' e r=>?_) q);have R2:=R.ex (e1.trans e);exact q O' _ H' (R2.to (R2.sl.set r) Sub.set)
def Bp(T:Tc)(x:Str)(px ep:Pos)(sc:Scope):Bool:=(T.sc.names.lookup x == some .local) && (px.line == ep.line) && !(sc.names.any fun (n,k)=>n == x && (k == .local || k == .cell))
theorem ui(C:CtxS T X Jx){e:Expr}{gs:List Comprehension}{x:Str}{px ep:Pos}{sc:Scope}{l:Nat}:swapsWith (.ListComp e gs sc ep) (some (.Name x px)) l X.env=pure (Bp T x px ep sc):=by
 unfold swapsWith Bp;show (pure (X.env.blockKind == .function && X.env.kindOf x == some .local && px.line == ep.line && !(sc.names.any fun (n,k)=>n == x && (k == .local || k == .cell))):Sem Bool)=_;rw [C.bk];unfold Env.kindOf;rw [C.scope];rfl
def uM(T:Tc)(x y:Str)(px py:Pos)(a b:Expr):Bool:=jx a && jx b && (T.sc.names.lookup x == some .local) && (T.sc.names.lookup y == some .local) && (py.line == px.line) && !(x == y) && !(foldedForSure 8 a && foldedForSure 8 b) && !(constantsAlone 8 a && constantsAlone 8 b)
theorem uJ(C:CtxS T X Jx){x y:Str}{px py pt pt2:Pos}{a b:Expr}{kt k2:Nat}(h:uM T x y px py a b=true):swappedStores [.Tuple [.Name x px,.Name y py] kt pt] (.Tuple [a,b] k2 pt2) X.env=pure (some [x,y]):=by
 unfold uM at h;simp only [ax,bo] at h;obtain⟨⟨⟨⟨⟨⟨⟨h1,h2⟩,h3⟩,h4⟩,h5⟩,h6⟩,h7⟩,h8⟩:=h;have s1:∀{e:Expr},jx e=true->(match e with | .Starred .. => true|_=>false)=false:=fun {e} h=>by cases e <;> first|rfl|cases h
 have k1:X.env.kindOf x == some .local:=by unfold Env.kindOf;rw [C.scope];exact h3
 have k2:X.env.kindOf y == some .local:=by unfold Env.kindOf;rw [C.scope];exact h4
 have n1:(y == x)=false:=by
  cases q:y == x with
  | false=>rfl
  | true =>
   have:=eq_of_beq q;subst this;rw [beq_self_eq_true] at h6;cases h6
 have k1':=eq_of_beq k1;have k2':=eq_of_beq k2;have h5':py.line=px.line:=eq_of_beq h5;have ed:([x,y]:List Str).eraseDups=[x,y]:=by
  rw [List.eraseDups_cons];simp [n1];rfl
 unfold swappedStores;have ep:∀(x:Str) (p:Pos),(Expr.Name x p).pos=p:=fun _ _=>rfl;simp [C.bk,aL,dE,k1',k2',ep,h5',ed];rw [if_neg,if_neg,if_neg]
 ·rintro⟨q1,q2⟩;rw [q1,q2] at h8;cases h8
 ·rintro⟨q1,q2⟩;rw [q1,q2] at h7;cases h7
 ·rintro (q|q)
  ·cases a <;> first|(cases h1;done)|cases q
  ·cases b <;> first|(cases h2;done)|cases q
def rl(T:Tc)(x y:Str)(a b:Expr):Bool:=!((T.sc.names.lookup x == some .local) && (T.sc.names.lookup y == some .local)) || (foldedForSure 8 a && foldedForSure 8 b)
theorem tS(C:CtxS T X Jx){x y:Str}{px py pt pt2:Pos}{a b:Expr}{kt k2:Nat}(h:rl T x y a b=true):swappedStores [.Tuple [.Name x px,.Name y py] kt pt] (.Tuple [a,b] k2 pt2) X.env=pure none:=by
 unfold rl at h;rcases du.mp h with h|h
 ·have h:(X.env.kindOf x == some .local)=false\/(X.env.kindOf y == some .local)=false:=by
   unfold Env.kindOf;rw [C.scope];revert h;cases T.sc.names.lookup x == some .local <;> cases T.sc.names.lookup y == some .local <;> simp
  unfold swappedStores;simp only [aL,dE];rcases h with h|h <;> simp only [h,bI,bH,if_false];all_goals (split <;> first|rfl|skip)
  all_goals (split <;> first|rfl|skip)
  all_goals (repeat' split) <;> first|rfl|simp_all
 ·have e:[a,b].all (foldedForSure 8)=true:=by
   show (foldedForSure 8 a && (foldedForSure 8 b && true))=true;rw [cA];exact h
  unfold swappedStores;dsimp only;rw [if_pos e];repeat' split
  all_goals rfl
def oS:Expr->Option (Str×Str×Pos×List Expr×Pos)
 | .Call (.Attribute (.Name x _) m ap) as [] cp=>if ap.endLine == cp.line then some (x,m,ap,as,cp) else none
 | _=>none
theorem n4{e:Expr}{x m:Str}{ap cp:Pos}{as:List Expr}(h:oS e=some (x,m,ap,as,cp)):(∃ p,e = .Call (.Attribute (.Name x p) m ap) as [] cp)/\(ap.endLine == cp.line)=true:=by
 unfold oS at h;split at h
 ·obtain⟨hl,h⟩:=ac.mp h;cases h;exact⟨⟨_,rfl⟩,hl⟩
 ·cases h
def wG(E:FE)(T:Tc)(x:Str)(as:List Expr):Option TEd:=match T.gn.lookup x with
 | some (j,s)=>if decide (j<=T.k) && T.isG x then (kE E as).map (dU s) else none
 | none=>none
def wF(E:FE)(T:Tc):Expr->Option TEd
 | .List es _=>(kE E es).map eX
 | .BinOp a .Mult b _=>two E a b (dW .Mult)
 | .Call (.Name x _) [a] [] _=>if x = "list" then (if jx a && T.isG "list" then (E a).map gd else none) else wG E T x [a]
 | .Call (.Name x _) [a,b] [] _=>wG E T x [a,b]
 | _=>none
def xO:Expr->Bool
 | .Tuple .. => true|_=>false
def A0(n:Nat)(T:Tc)(p:Pos)(i:Nat)(e:Expr):Option TSd:=match oS e with
 | some (y,m,_,as,_)=>if m = "pop" then (match as with
  | []=>(T.slot y).map (il i)
  | _=>none) else (jJ n T e).map (d8 (T.frz p) (gNm i))
 | none=>if T.own.contains p.line then ((wF (jJ n T) T e).map (iE (T.frz p) i)) else (jJ n T e).map (d8 (T.frz p) (gNm i))
def uL:List Expr->Expr->Option (Str×Pos×Str×Pos×Expr×Expr)
 | [.Name x px,.Name y py],.Tuple [a,b] _ _=>some (x,px,y,py,a,b)
 | _,_=>none
theorem uK{es:List Expr}{e a b:Expr}{x y:Str}{px py:Pos}(h:uL es e=some (x,px,y,py,a,b)):es=[.Name x px,.Name y py]/\∃ k p,e = .Tuple [a,b] k p:=by
 unfold uL at h;split at h
 ·cases h;exact⟨rfl,_,_,rfl⟩
 ·cases h
def xZ(n:Nat)(T:Tc)(p:Pos)(es:List Expr)(e:Expr):Option TSd:=match uL es e with
 | some (x,px,y,py,a,b)=>if uM T x y px py a b then (T.slot x).bind fun i=>(T.slot y).bind fun j=>(if T.own.contains p.line then (wF (jJ n T) T a).bind fun ta=>(jJ n T b).map (io (T.frz p) i j ta) else (jJ n T a).bind fun ta=>(jJ n T b).map (gW (T.frz p) i j ta)) else if rl T x y a b then (qE T es).bind fun is=>(jJ n T e).map (d8 (T.frz p) (gTp is)) else none
 | none=>if xO e || kh e then none else (qE T es).bind fun is=>(jJ n T e).map (d8 (T.frz p) (gTp is))
def AN(n:Nat)(T:Tc)(p:Pos)(e:Expr):Expr->Option TSd
 | .Name x _=>if t3 (T.sc.names.lookup x)=true then (T.slot x).bind fun i=>A0 n T p i e else none
 | .Subscript a k _=>(match a with
  | .Name x _=>if jx k && !kh e then (T.slot x).bind fun i=>(jJ n T k).bind fun tk=>(jJ n T e).map (gY (T.frz p) i tk) else none
  | _=>none)
 | .Tuple es _ _=>xZ n T p es e
 | _=>none
def BZ(n:Nat)(T:Tc)(p:Pos)(e:Expr):Option TSd:=match oS e with
 | some (x,m,_,as,_)=>if m = "append" then (match as with
   | [e]=>(if jx e then (T.slot x).bind fun i=>(jJ n T e).map (iF (T.frz p) i) else none)
   | _=>none)
  else if m = "pop" then (if as.isEmpty then (T.slot x).map iX else none)
  else none
 | none=>none
def x6(n:Nat)(T:Tc):List Stmt->List ExceptHandler->Option TSd
 | [.Return (some (.Call (.Name g _) (a::as) [] _)) _],[.ExceptHandler (some (.Name cl _)) (some nm) [.Assign [.Name y _] (.Name z _) _] _] =>
  if z=nm && T.isG cl && (T.sc.names.lookup nm == some .local) && (T.sc.names.lookup y == some .local) then (match T.xt.xm.lookup cl with
   | some (_,m)=>(T.slot g).bind fun gi=>(T.slot nm).bind fun j=>(T.slot y).bind fun i=>if i≠j && T.xt.tab.all (fun t=>t.2.1<=T.k) then (kE (jJ n { T with xt:=T.xt.inn }) (a::as)).map (iH T.xt.tab m i j gi) else none
   | none=>none) else none
 | _,_=>none
mutual
def AW:Nat->Tc->Stmt->Option TSd
 | 0,_,_=>none
 | n+1,T,st=>match st with
  | .Return o p=>(match o with
   | some e=>(jJ n T e).map (d5 (T.frz p))
   | none=>some ik)
  | .Pass _=>some d3
  | .Break _=>some iW
  | .Expr e p=>BZ n T p e
  | .Assign tgs e p=>(match tgs with
   | [tg]=>AN n T p e tg
   | _=>none)
  | .AugAssign tg op e p=>(match tg with
   | .Name x _=>if t3 (T.sc.names.lookup x)=true then (T.slot x).bind fun i=>(jJ n T e).map (hX (T.frz p) i op) else none
   | .Subscript a k _=>(match a with
    | .Name x _=>if jx k then (T.slot x).bind fun i=>(jJ n T k).bind fun tk=>(jJ n T e).map (gZ (T.frz p) i tk op) else none
    | _=>none)
   | _=>none)
  | .If k a b p=>(pJ n T k).bind fun tk=>(pz n T a).bind fun ta=>(pz n T b).map fun tb=>dIf (T.frz p) tk ta tb
  | .While k a r p=>(match r with
   | []=>if T.xt.lp then (pJ n T k).bind fun tk=>if (T.fz.lookup (p.line+2000000)).isSome then some (eB tk e7) else (pz n T a).map (eB tk) else none
   | _=>none)
  | .For tg it a r p=>(match r with
   | []=>if jx it && T.xt.lp then (y6 (jJ n T) T tg it).bind fun ti=>(AX T tg).bind fun g=>(pz n T a).map (gX (T.frz p) ti g) else none
   | _=>none)
  | .Raise (some (.Call (.Name nm _) [a] [] _)) none _=>if T.xt.lp then some e7 else if T.isG nm && jx a then (match T.xt.xc.lookup nm with
   | some (i,C,y)=>if i+1<=T.k then (kE (jJ n T) [a]).map (eO T.xt.E C y) else none
   | none=>none) else none
  | .Try b hs [] [] _=>x6 n T b hs
  | _=>none
def pz:Nat->Tc->List Stmt->Option TSd
 | 0,_,_=>none
 | n+1,T,sts=>match sts with
  | []=>some d3
  | st::r=>(match r with
   | []=>AW n T st
   | _=>(AW n T st).bind fun t=>(pz n T r).map (dSq t))
end
theorem r9(C:CtxOk T X Jx){E:FE}(ih:nL X Jx E){x:Str}{a:Expr}{as:List Expr}{t:TEd}{p pos:Pos}(h:wG E T x (a::as)=some t):PE X (.Call (.Name x p) (a::as) [] pos) (LF X.K Jx t):=by
 unfold wG at h;cases e1:T.gn.lookup x with
 | none=>rw [e1] at h;cases h
 | some js =>
  obtain⟨j,s⟩:=js;rw [e1] at h;obtain⟨hk,h⟩:=ac.mp h;obtain⟨k1,k2⟩:=ad.mp hk;obtain⟨tb,h2,rfl⟩:=aa.mp h;obtain⟨g1,g2⟩:=C.isG k2;obtain⟨ps,d⟩:=C.gn x j s (ju e1);exact dU.okF (oJ d C.room (jG ih h2) (of_decide_eq_true k1) g1 g2 (jI h2) (jL h2))
theorem r8(C:CtxOk T X Jx){E:FE}(ih:nL X Jx E){e:Expr}{t:TEd}(h:wF E T e=some t):PE X e (LF X.K Jx t)/\kh e=false:=by
 unfold wF at h;split at h
 ·obtain⟨ta,h1,rfl⟩:=aa.mp h;exact⟨eX.okF (jG ih h1),rfl⟩
 ·obtain⟨ta,tb,h1,h2,rfl⟩:=lY h;exact⟨je.okF (ih h1) (ih h2),rfl⟩
 ·rename_i x p1 a p2;by_cases ex:x = "list"
  ·rw [if_pos ex] at h;obtain⟨hn,h4⟩:=ac.mp h;obtain⟨n1,n2⟩:=ad.mp hn;obtain⟨ta,h1,rfl⟩:=aa.mp h4;subst ex;exact⟨gd.okF (C.isG n2).1 C.bl.list (ih h1) (jm n1 _ _),rfl⟩
  ·rw [if_neg ex] at h;exact⟨r9 C ih h,rfl⟩
 ·exact⟨r9 C ih h,rfl⟩
 ·cases h
theorem ky{e:Expr}(h:kh e=false)(t:Expr)(l:Nat)(env:Env):swapsWithSole [t] e l env=pure false:=kL h (some t) l env
theorem uf{n:Nat}(C:CtxOk T X Jx){e:Expr}{gs:List Comprehension}{sc:Scope}{p:Pos}{t:TEd}(h:jJ n T (.ListComp e gs sc p)=some t):∃ tg it ifs ti g te tk,gs=[⟨tg,it,ifs,0⟩]/\jx it=true/\CompS X.N X.env.scope sc (j3 T.N sc)/\PI X tg it (LI X.K Jx ti)/\t=eN ti (j3 T.N sc) g tk te/\(∀ i∈g.tg,i∈j3 T.N sc)/\(∀ s2 H2 fp pins A,PG (kS X sc s2 H2 fp pins A) tg (LG X.K Jx g))/\(∀ s2 H2 fp pins A,PTs (kS X sc s2 H2 fp pins A) ifs (LT X.K Jx tk))/\∀ s2 H2 fp pins A,PE (kS X sc s2 H2 fp pins A) e (LE X.K Jx te):=by
 cases n with
 | zero=>cases h
 | succ n =>
  have ih:=lB n;obtain⟨hs,h⟩:=ac.mp (show (if ul T.sc sc then (vh gs).bind fun (tg,it,ifs)=>sB (y6 (jJ n T) T tg it) (jJ n { T with sc:=sc,xt:=T.xt.inn }) (pJ n { T with sc:=sc,xt:=T.xt.inn }) T e tg ifs sc else none)=some t from h);obtain⟨⟨tg,it,ifs⟩,h1,h2⟩:=ae.mp h;obtain⟨rfl,hn⟩:=sk h1;obtain⟨ti,g,te,tk,q1,q0,q2,q3,q4,q5⟩:=qm C h2 (fun _ _ _ _ _=>ih.e (C.inner ..)) (fun _ _ _ _ _=>ih.t (C.inner ..));exact⟨tg,it,ifs,ti,g,te,tk,rfl,hn,C.compS hs,qY C (ih.e C) q1,q0,q2,q3,q4,q5⟩
theorem yT{n:Nat}(C:CtxS T X Jx){i:Nat}{x:Str}{e:Expr}{t:TSd}{px p:Pos}(hl:t3 (T.sc.names.lookup x)=true)(hs:T.slot x=some i)(h:A0 n T p i e=some t):PS X (.Assign [.Name x px] e p) (LS X.K Jx t):=by
 have ih:nL X Jx (jJ n T):=(lB n).e C.toCtxOk;have hf:X.fn x=true\/X.env.scope.names.lookup x=some .local:=.inl (C.fnT x);unfold A0 at h;split at h
 ·rename_i y m ap as cp em;obtain⟨⟨p1,rfl⟩,hn⟩:=n4 em;by_cases hm:m = "pop"
  rotate_left
  ·rw [if_neg hm] at h;obtain⟨ta,h1,rfl⟩:=aa.mp h;exact i4.ok C.nd (C.slot hs) (C.L hl) (ih h1) (kL rfl _ _ _) hf
  subst hm;rw [if_pos rfl] at h;have h3:=h;clear h;match as,h3 with
  | [],h3 =>
   obtain⟨j,h1,rfl⟩:=aa.mp h3;exact il.ok C.nd (C.slot hs) (C.L hl) hf (C.var h1) rfl hn rfl
  | _::_,h3=>cases h3
 ·by_cases ho:T.own.contains p.line=true
  ·rw [if_pos ho] at h;obtain⟨ta,h1,rfl⟩:=aa.mp h;obtain⟨q1,q2⟩:=r8 C.toCtxOk ih h1;exact iE.ok C.nd (C.slot hs) (C.L hl) q1 (kL q2 _ _ _) hf
  ·rw [if_neg ho] at h;obtain⟨ta,h1,rfl⟩:=aa.mp h;have gen:kh e=false->PS X (.Assign [.Name x px] e p) (LS X.K Jx (d8 (T.frz p) (gNm i) ta)):=fun hc=>i4.ok C.nd (C.slot hs) (C.L hl) (ih h1) (kL hc _ _ _) hf;cases e;case ListComp e gs sc ep hmm =>
    obtain⟨tg,it,ifs,ti,g,te,tk,rfl,hn,q0,qi,rfl,q2,q3,q4,q5⟩:=uf C.toCtxOk h1;cases sw:Bp T x px ep sc with
    | false=>exact i4.ok C.nd (C.slot hs) (C.L hl) (ih h1) (by rw [ui C,sw]) hf
    | true=>exact jd.ok C.calm C.nd (C.slot hs) (C.L hl) q0 qi q3 q4 q5 (fun x=>ml hn _ x) q2 (by rw [ui C,sw]) hf
   case SetComp=>cases n <;> cases h1
   case DictComp=>cases n <;> cases h1
   all_goals exact gen rfl
theorem vR{n:Nat}(C:CtxS T X Jx){es:List Expr}{e:Expr}{t:TSd}{p pt:Pos}{kt:Nat}(h:xZ n T p es e=some t):PS X (.Assign [.Tuple es kt pt] e p) (LS X.K Jx t):=by
 have ih:nL X Jx (jJ n T):=(lB n).e C.toCtxOk;unfold xZ at h;split at h
 ·rename_i x px y py a b eo;obtain⟨rfl,k,p2,rfl⟩:=uK eo;by_cases hp:uM T x y px py a b=true
  rotate_left
  ·rw [if_neg hp] at h;obtain⟨hc,h⟩:=ac.mp h;obtain⟨is,h1,h⟩:=ae.mp h;obtain⟨ta,h2,rfl⟩:=aa.mp h;obtain⟨q1,q2,q3⟩:=mN C.toCtxOk h1;exact d8.ok (ih h2) (gTp.ok (qJ C.calm q1 q2 q3)) (ky rfl _ _ _) (tS C hc) rfl
  rw [if_pos hp] at h;obtain⟨i,h1,h⟩:=ae.mp h;obtain⟨j,h2,h⟩:=ae.mp h;have hp':=hp;unfold uM at hp';simp only [ax,bo] at hp';obtain⟨⟨⟨⟨⟨⟨⟨w1,w2⟩,w3⟩,w4⟩,w5⟩,w6⟩,w7⟩,w8⟩:=hp';have ne:i≠j:=by
   rintro rfl;have a1:=C.slot h1;have a2:=C.slot h2;rw [a1] at a2;cases a2;rw [beq_self_eq_true] at w6;cases w6
  by_cases ow:T.own.contains p.line=true
  ·rw [if_pos ow] at h;obtain⟨ta,h3,h⟩:=ae.mp h;obtain⟨tb,h4,rfl⟩:=aa.mp h;exact (uy (pos:=p) C.calm C.nd (C.slot h1) (C.slot h2) ne (C.loc _ (eq_of_beq w3)) (C.loc _ (eq_of_beq w4)) (jg (r8 C.toCtxOk ih h3).1 (jg (ih h4) pa_nil (jm w2 _ _)) (jm w1 _ _)) (uJ C hp) rfl).weak fun D σ H q=>io.weak q
  ·rw [if_neg ow] at h;obtain⟨ta,h3,h⟩:=ae.mp h;obtain⟨tb,h4,rfl⟩:=aa.mp h;exact (uy (pos:=p) C.calm C.nd (C.slot h1) (C.slot h2) ne (C.loc _ (eq_of_beq w3)) (C.loc _ (eq_of_beq w4)) (jg (ih h3) (jg (ih h4) pa_nil (jm w2 _ _)) (jm w1 _ _)) (uJ C hp) rfl).weak fun D σ H q=>gW.weak q
 ·obtain⟨hn,h⟩:=cJ.mp h;obtain⟨is,h1,h⟩:=ae.mp h;obtain⟨ta,h2,rfl⟩:=aa.mp h;obtain⟨q1,q2,q3⟩:=mN C.toCtxOk h1;have hn2:xO e=false/\kh e=false:=by simpa using hn
  refine d8.ok (ih h2) (gTp.ok (qJ C.calm q1 q2 q3)) (ky hn2.2 _ _ _) ?_ rfl;have:=hn2.1;cases e <;> first|rfl|cases this
theorem xl{n:Nat}(C:CtxS T X Jx){tg e:Expr}{t:TSd}{p:Pos}(h:AN n T p e tg=some t):PS X (.Assign [tg] e p) (LS X.K Jx t):=by
 have ih:nL X Jx (jJ n T):=(lB n).e C.toCtxOk;cases tg <;> first|(cases h;done)|skip
 case Name x px =>
  obtain⟨hl,h⟩:=ac.mp (show (if t3 (T.sc.names.lookup x)=true then (T.slot x).bind fun i=>A0 n T p i e else none)=some t from h);obtain⟨i,h1,h⟩:=ae.mp h;exact yT C hl h1 h
 case Subscript a k sp =>
  cases a <;> first|(cases h;done)|skip
  rename_i x q;obtain⟨hn,h⟩:=ac.mp (show (if jx k && !kh e then (T.slot x).bind fun i=>(jJ n T k).bind fun tk=>(jJ n T e).map (gY (T.frz p) i tk) else none)=some t from h);obtain⟨n1,n2⟩:=ad.mp hn;obtain⟨i,h1,h⟩:=ae.mp h;obtain⟨tk,h2,h⟩:=ae.mp h;obtain⟨ta,h3,rfl⟩:=aa.mp h;have hc:kh e=false:=by simpa using n2
  refine gY.ok (C.var h1) (ih h2) (ih h3) (ky hc _ _ _) ?_ rfl (ld (C.var h1) (ih h2) jN ?_)
  ·cases e <;> rfl
  ·intro v;cases k <;> first|rfl|cases n1
 case Tuple es k pt=>exact vR C h
theorem zf{n:Nat}(C:CtxS T X Jx){e:Expr}{t:TSd}{p:Pos}(h:BZ n T p e=some t):PS X (.Expr e p) (LS X.K Jx t):=by
 have ih:nL X Jx (jJ n T):=(lB n).e C.toCtxOk;unfold BZ at h;split at h
 ·rename_i x m ap as cp em;obtain⟨⟨p1,rfl⟩,hl⟩:=n4 em;by_cases e1:m = "append"
  ·subst e1;rw [if_pos rfl] at h;match as,h with
   | [e],h =>
    obtain⟨hn,h⟩:=ac.mp h;obtain⟨i,h1,h⟩:=ae.mp h;obtain⟨ta,h2,rfl⟩:=aa.mp h;exact iF.ok (C.var h1) rfl (ih h2) (jm hn _ _) hl rfl
   | [],h=>cases h
   | _::_::_,h=>cases h
  ·rw [if_neg e1] at h;by_cases e2:m = "pop"
   ·subst e2;rw [if_pos rfl] at h;obtain⟨ha,h4⟩:=ac.mp h;obtain⟨i,h1,rfl⟩:=aa.mp h4;cases as with
    | cons=>cases ha
    | nil=>exact iX.ok (C.var h1) rfl hl rfl
   ·rw [if_neg e2] at h;cases h
 ·cases h
theorem CtxOk.wish(C:CtxOk T X Jx)(E:Value->Shared->Prop):CtxOk { T with xt:=T.xt.inn } (X.wish E) Jx :=
 ⟨C.N,C.nd,C.calm,C.room,C.vis,C.gl,C.loc,C.cf,C.fn,C.gc,C.bl,C.cel,C.gn,⟨C.xt.xi,C.xt.xf,C.xt.x0,C.xt.xc,fun _ _ _ _ h=>absurd h ah,C.xt.tab,C.xt.xs,C.xt.xm⟩,fun h=>absurd rfl h⟩
theorem vS{n:Nat}(C:CtxS T X Jx){b:List Stmt}{hs:List ExceptHandler}{t:TSd}{p:Pos}(h:x6 n T b hs=some t):PS X (.Try b hs [] [] p) (LS X.K Jx t):=by
 unfold x6 at h;split at h
 ·rename_i g p1 a as p2 p3 cl p4 nm y p5 z p6 p7 p8;obtain⟨hk,h9⟩:=ac.mp h;clear h;obtain⟨hk,k4⟩:=ad.mp hk;obtain⟨hk,k3⟩:=ad.mp hk;obtain⟨k1,k2⟩:=ad.mp hk;have ez:z=nm:=of_decide_eq_true k1;subst ez;have h:=h9;clear h9;cases e1:T.xt.xm.lookup cl with
  | none=>rw [e1] at h;cases h
  | some js =>
   obtain⟨Nc,m⟩:=js;rw [e1] at h;obtain⟨gi,h1,h⟩:=ae.mp h;obtain⟨j,h2,h⟩:=ae.mp h;obtain⟨i,h3,h⟩:=ae.mp h;obtain⟨hi,h⟩:=ac.mp h;obtain⟨hi,hall⟩:=ad.mp hi;obtain⟨ta,h4,rfl⟩:=aa.mp h;obtain⟨g1,g2⟩:=C.toCtxOk.isG k2;obtain⟨m1,m2⟩:=C.xt.xm _ _ _ (ju e1);have okN':∀{x:Str} {i:Nat},T.slot x=some i->yP x=true/\zF (T.sc.names.lookup x)=true:=fun {x i} q=>by
    unfold Tc.slot at q;split at q
    ·rename_i e;obtain⟨e1,e2⟩:=ad.mp e;exact⟨e2,e1⟩
    ·cases q
   have hla:∀ fa j s,(fa,j,s)∈T.xt.tab->j<=T.k/\∃ x ps,DefX X.prog X.w X.K X.mg X.base x fa j ps (j6 X.K s):=fun fa j s q=>⟨of_decide_eq_true (aQ.mp hall _ q),C.xt.tab fa j s q⟩;refine iH.ok (Nc:=Nc) (yA C.nd (C.toCtxOk.slot h1) (C.vis _ (okN' h1).2) (rY (okN' h1).1) (uT (okN' h1).1) (C.toCtxOk.slot h2) (C.loc _ (eq_of_beq k3)) (rY (okN' h2).1) (uT (okN' h2).1) (C.toCtxOk.slot h3) (C.loc _ (eq_of_beq k4)) g1 m1 g2 (fun E'=>jG ((lB n).e (C.toCtxOk.wish E')) h4) (jI h4) (jL h4) C.stk (by simpa using hi)) m2 hla C.room fun fa v q=>Cn q
 ·cases h
theorem oB:∀ n,(∀{T:Tc} {X:Cx} {Jx:Hp->Prop} {st:Stmt} {t:TSd},CtxS T X Jx->AW n T st=some t->PS X st (LS X.K Jx t))/\(∀{T:Tc} {X:Cx} {Jx:Hp->Prop} {sts:List Stmt} {t:TSd},CtxS T X Jx->pz n T sts=some t->PSs X sts (LS X.K Jx t))
 | 0=>⟨fun _ h=>(by cases h),fun _ h=>(by cases h)⟩
 | n+1=>by
  have ihS:=oB n;constructor
  ·intro T X Jx st t C h;have C':=C.toCtxOk;have ih:nL X Jx (jJ n T):=(lB n).e C';have it:A4 X Jx (pJ n T):=(lB n).t C';have hp:T.xt.lp=true->PassesOwn (model X.prog X.w) X.A X.env X.xe:=fun z=>by
    rw [C.xe z];exact PassesOwn.never
   cases st <;> first|(cases h;done)|skip
   case Return o p =>
    cases o with
    | none =>
     cases h;exact ik.ok
    | some e =>
     obtain⟨ta,h1,rfl⟩:=aa.mp (show (jJ n T e).map (d5 (T.frz p))=some t from h);exact d5.ok (ih h1)
   case Pass=>cases h;exact d3.pass
   case Break=>cases h;exact iW.ok
   case Expr=>exact zf C h
   case Assign tgs e p =>
    match tgs,h with
    | [tg],h=>exact xl C h
    | [],h=>cases h
    | _::_::_,h=>cases h
   case AugAssign tg op e p =>
    cases tg <;> first|(cases h;done)|skip
    case Name x px =>
     obtain⟨hl,h⟩:=ac.mp (show (if t3 (T.sc.names.lookup x)=true then (T.slot x).bind fun i=>(jJ n T e).map (hX (T.frz p) i op) else none)=some t from h);obtain⟨i,h1,h⟩:=ae.mp h;obtain⟨ta,h2,rfl⟩:=aa.mp h;exact hX.ok C.room C.nd (C'.slot h1) (C.L hl) (ih h2) (.inl (C.fnT _))
    case Subscript a k sp =>
     cases a <;> first|(cases h;done)|skip
     rename_i x q;obtain⟨hn,h⟩:=ac.mp (show (if jx k then (T.slot x).bind fun i=>(jJ n T k).bind fun tk=>(jJ n T e).map (gZ (T.frz p) i tk op) else none)=some t from h);obtain⟨i,h1,h⟩:=ae.mp h;obtain⟨tk,h2,h⟩:=ae.mp h;obtain⟨ta,h3,rfl⟩:=aa.mp h;refine gZ.ok C.room (C.var h1) (ih h2) (ih h3) ?_;cases k <;> first|(intros;rfl)|cases hn
   case If k a b p =>
    obtain⟨tk,h0,h⟩:=ae.mp (show (pJ n T k).bind (fun tk=>(pz n T a).bind fun ta=>(pz n T b).map fun tb=>dIf (T.frz p) tk ta tb)=some t from h);obtain⟨ta,h1,h⟩:=ae.mp h;obtain⟨tb,h2,rfl⟩:=aa.mp h;exact dIf.ok (it h0) (ihS.2 C h1) (ihS.2 C h2)
   case While k a r p =>
    cases r with
    | cons=>cases h
    | nil =>
     obtain⟨hlp,h⟩:=ac.mp (show (if T.xt.lp then (pJ n T k).bind (fun tk=>if (T.fz.lookup (p.line+2000000)).isSome then some (eB tk e7) else (pz n T a).map (eB tk)) else none)=some t from h);obtain⟨tk,h0,h⟩:=ae.mp h;split at h
     ·cases h;exact eB.ok (hp hlp) (it h0) e7.oks
     obtain⟨ta,h1,rfl⟩:=aa.mp h;exact eB.ok (hp hlp) (it h0) (ihS.2 C h1)
   case For tg i a r p =>
    cases r with
    | cons=>cases h
    | nil =>
     obtain⟨hn,h⟩:=ac.mp (show (if jx i && T.xt.lp then (y6 (jJ n T) T tg i).bind fun ti=>(AX T tg).bind fun g=>(pz n T a).map (gX (T.frz p) ti g) else none)=some t from h);obtain⟨hn,hlp⟩:=ad.mp hn;obtain⟨ti,h0,h⟩:=ae.mp h;obtain⟨g,h1,h⟩:=ae.mp h;obtain⟨tb,h2,rfl⟩:=aa.mp h;exact gX.ok (hp hlp) C.calm (qY C' ih h0) (qF C' h1) (ihS.2 C h2) fun x=>ml hn _ x
   case Raise ex cause p =>
    match ex,cause,h with
    | some (.Call (.Name nm p1) [a] [] p2),none,h =>
     have h:(if T.xt.lp then some e7 else if T.isG nm && jx a then (match T.xt.xc.lookup nm with
      | some (i,C,y)=>if i+1<=T.k then (kE (jJ n T) [a]).map (eO T.xt.E C y) else none
      | none=>none) else none)=some t:=h
     split at h
     ·cases h;exact e7.ok
     rename_i k1;obtain⟨hk,h⟩:=ac.mp h;obtain⟨k2,n1⟩:=ad.mp hk;cases e1:T.xt.xc.lookup nm with
     | none=>rw [e1] at h;cases h
     | some js =>
      obtain⟨i,Cc,y⟩:=js;rw [e1] at h;obtain⟨hi,h⟩:=ac.mp h;obtain⟨ta,h1,rfl⟩:=aa.mp h;obtain⟨EX,hR,hJ⟩:=C.ro (by simpa using k1);obtain⟨g1,g2⟩:=C'.isG k2;exact eO.ok hJ hR C.calm (C.xt.xc _ _ _ _ (ju e1)) C.room hi g1 g2 (jG ih h1) (jm n1 _ _)
   case Try b hs els fin p =>
    match els,fin,h with
    | [],[],h=>exact vS C h
  ·intro T X Jx sts t C h;match sts,h with
   | [],h =>
    cases h;exact d3.nil
   | [st],h=>exact dSq.one (ihS.1 C h)
   | st::s2::r,h =>
    obtain⟨ta,h1,h⟩:=ae.mp (show (AW n T st).bind (fun t=>(pz n T (s2::r)).map (dSq t))=some t from h);obtain⟨tb,h2,rfl⟩:=aa.mp h;exact dSq.ok (ihS.1 C h1) (ihS.2 C h2)
theorem vy{P:Program}{w:World}{mg:Str->Option Value}{base:Heap}{qual:Str}{st:Stmt}{f:Addr}{N ps:List Str}{k:Nat}{G gn:List (Str×Nat×SpB)}{gc:List (Str×D)}{fz:List (Nat×List Nat)}{own mu:List Nat}{xt:Xt}{cdv:Value}{A:Around}{outer:List Env}{s0:Shared}{H:Hp}{E:XK}{CX:rF}{Ew:Value->Shared->Prop}(B:Bl mg)(S:FnScope N ps (jf st))
  (hG:∀ x j s,(x,j,s)∈G->∃ ps,Def P w K mg base x j ps (mM K s.n s.run)) (hgc:∀ x d,(x,d)∈gc->∃ v u,mg x=some u/\RelV v u/\∀ f O H,Rp K f O H d v) (hgn:∀ x j s,(x,j,s)∈gn->∃ ps,Def P w K mg base x j ps (tY K s.n s.run)) (hx:XtOk P w K mg base xt) (hr:Room k (A.deeper (PyProof.Rows.envOfC qual (jf st) s0.heap.objs.size f cdv)))
  (px:xt.gx≠[]->∃ EX,kF (rE P w) ((lv CX P w K mg base N qual (jf st) f cdv A outer s0 H E).wish Ew) EX/\∀ H',Jx H'->pw xt.E EX H') (xe:xt.lp=true->Ew=fun _ _=>False) (ro:xt.lp=false->∃ EX,nJ ((lv CX P w K mg base N qual (jf st) f cdv A outer s0 H E).wish Ew) EX/\∀ H',Jx H'->pw xt.E EX H') :
  CtxS ⟨N,jf st,G,gc,k,fz,own,mu,gn,xt⟩ ((lv CX P w K mg base N qual (jf st) f cdv A outer s0 H E).wish Ew) Jx:=by
 refine⟨⟨rfl,S.nd,rfl,hr,fun x h=>?_,fun x h=>h,fun x h=>h,fun x h=>h,hG,hgc,B,fun x h=>⟨h,rfl⟩,hgn,hx,px⟩,rfl,?_,xe,fun _=>rfl,ro,rfl,rfl⟩
 ·have h:zF ((jf st).names.lookup x)=true:=h;unfold xn;show (jf st).names.lookup x=_\/(jf st).names.lookup x=_\/(jf st).names.lookup x=_;cases q:(jf st).names.lookup x with
  | none=>rw [q] at h;cases h
  | some k=>rw [q] at h;cases k <;> first|exact .inl rfl|exact .inr (.inl rfl)|exact .inr (.inr rfl)|cases h
 ·show (if (jf st).kind.isAnnotationScope then ScopeKind.function else (jf st).kind) = .function;rw [S.kind];rfl
theorem uS{P:Program}{w:World}{mg:Str->Option Value}{base:Heap}{x qual:Str}{st:Stmt}{f:Addr}{fd:FuncData}{N ps:List Str}{n k:Nat}{t:TSd}{s:SpB}{G gn:List (Str×Nat×SpB)}{gc:List (Str×D)}{fz:List (Nat×List Nat)}{own mu:List Nat}{xt:Xt}(F:Fun K x qual st f fd)(B:Bl mg)(S:FnScope N ps (jf st))(hn:s.n=ps.length)
  (hG:∀ x j s,(x,j,s)∈G->∃ ps,Def P w K mg base x j ps (mM K s.n s.run)) (hgc:∀ x d,(x,d)∈gc->∃ v u,mg x=some u/\RelV v u/\∀ f O H,Rp K f O H d v) (hgn:∀ x j s,(x,j,s)∈gn->∃ ps,Def P w K mg base x j ps (tY K s.n s.run)) (hx:XtOk P w K mg base xt)
  (ht:pz n ⟨N,jf st,G,gc,k,fz,own,mu,gn,xt⟩ (jw st)=some t) (h:Does N.length t s) (hlp:xt.lp=true/\xt.gx=[]:=by exact⟨rfl,rfl⟩):FnOk P w K mg base pA (k+1) f fd ps (mM K s.n s.run) :=
 F.ok S (fun vs H Q E q=>q.1.trans hn) (fun cdv A outer s0 H vs Q E hr q=>⟨LS K (fun _=>True) t,(oB n).2 (vy B S hG hgc hgn hx hr (fun z=>absurd hlp.2 z) (fun _=>rfl) fun z=>by rw [hlp.1] at z;cases z) ht,h.ok q⟩)
theorem wz{P:Program}{w:World}{mg:Str->Option Value}{base:Heap}{x qual:Str}{st:Stmt}{f:Addr}{fd:FuncData}{N ps:List Str}{n k:Nat}{t:(D->Prop)->TSd}{s:SpX}{G gn:List (Str×Nat×SpB)}{gc:List (Str×D)}{fz:List (Nat×List Nat)}{own mu:List Nat}{xt:(D->Prop)->Xt}(F:Fun K x qual st f fd)(B:Bl mg)(S:FnScope N ps (jf st))(hn:s.n=ps.length)
  (hG:∀ x j s,(x,j,s)∈G->∃ ps,Def P w K mg base x j ps (mM K s.n s.run)) (hgc:∀ x d,(x,d)∈gc->∃ v u,mg x=some u/\RelV v u/\∀ f O H,Rp K f O H d v) (hgn:∀ x j s,(x,j,s)∈gn->∃ ps,Def P w K mg base x j ps (tY K s.n s.run)) (hx:∀ E,XtOk P w K mg base (xt E))
  (ht:∀ E,pz n ⟨N,jf st,G,gc,k,fz,own,mu,gn,xt E⟩ (jw st)=some (t E)) (h:sE N.length t s) (hE:∀ E,(xt E).E=E/\(xt E).lp=false):FnOk P w K mg base (rE P w) (k+1) f fd ps (j6 K s):=by
 obtain⟨oc,od,kV,doc,pm,an,cdv,ct,osl,rfl,lk,hcd⟩:=F.ex;refine xQ lk hcd S (fun vs H Q E q=>q.1.trans hn) fun A outer s0 H vs Q EX hr q=>?_;obtain⟨hl,f1,O,ds,fl,fO,al,lO,r,q⟩:=q;generalize hEd:(fun d=>∀ cls dx H',Ex f1 H H'->XR H' d cls dx->EX cls dx H')=Ed at q;have jk:∀ H',Ex f1 H H'->pw Ed EX H':=fun H' e d cls dx hd xr=>by
  subst hEd;exact hd cls dx H' e xr
 have C:=vy (Jx:=pw Ed EX) (CX:=rE P w) (Ew:=(lv (rE P w) P w K mg base N qual (jf st) f cdv A outer s0 H EX).xe) (fz:=fz) (own:=own) (mu:=mu) (A:=A) (outer:=outer) (s0:=s0) (H:=H) (E:=EX) (cdv:=cdv) (qual:=qual) (f:=f) B S hG hgc hgn (hx Ed) hr (fun _=>⟨EX,uG,fun H' h=>by rw [(hE Ed).1];exact h⟩) (fun z=>by rw [(hE Ed).2] at z;cases z)
  fun _=>⟨EX,fun pins σ H1 s1 e C d u I he hu hn hq=>sR I he hu hn hq,fun H' h=>by rw [(hE Ed).1];exact h⟩
 refine⟨LS K (pw Ed EX) (t Ed),(oB n).2 C (ht Ed),⟨f1,O,H,O⟩,O,_,startD.ok fl fO al lO r jk,?_⟩;have q:=h ds _ Ed (r.len.symm.trans hl) q;refine (t Ed).mono ?_ q;refine⟨fun s q O' σ' H' R=>?_,fun d q v H' R=>?_,fun _ q=>q.elim,fun _ q=>q.elim⟩
 ·exact q .non H' (zg R.sl.fl R.kp) rfl
 ·exact q v H' (zg R.fl R.kp) R.rp
end
section
open PySem L2 Dp
variable{P:Program}{w:World}{K:Frag}{Jx:Hp->Prop}{mg:Str->Option Value}{base:Heap}
theorem ww{st:Stmt}{f0:Addr}{fd:FuncData}{N:List Str}{n k:Nat}{t:TSd}{rest:List Stmt}{p1 p2 p3 p4 p5:Pos}{G:List (Str×Nat×SpB)}{gc:List (Str×D)}{fz:List (Nat×List Nat)}{own mu:List Nat}{xt:Xt}(F:Fun K "law" "law" st f0 fd)(B:Bl mg)(S:FnScope ("_law_script" :: "_law_flow_here" :: N) ["_law_script"] (jf st))
  (g:Def P w K mg base "_law_flow" 1 ["_law_script"] (lZ K)) (hG:∀ x j s,(x,j,s)∈G->∃ ps,Def P w K mg base x j ps (mM K s.n s.run)) (hgc:∀ x d,(x,d)∈gc->∃ v u,mg x=some u/\RelV v u/\∀ f O H,Rp K f O H d v) (hx:XtOk P w K mg base xt)
  (hb:jw st = .Assign [.Name "_law_flow_here" p1] (.Call (.Name "_law_flow" p2) [.Name "_law_script" p3] [] p4) p5::rest) (hk:1<=k) (hv:(jf st).names.lookup ("_law_script" : Str)=some .local\/(jf st).names.lookup ("_law_script" : Str)=some .cell) (hl:(jf st).names.lookup ("_law_flow_here" : Str)=some .local\/(jf st).names.lookup ("_law_flow_here" : Str)=some .cell) (hg:(jf st).names.lookup ("_law_flow" : Str)=some .globalImplicit)
  (ht:pz n ⟨"_law_script" :: "_law_flow_here" :: N,jf st,G,gc,k,fz,own,mu,[],xt⟩ rest=some t) (h:t.run ⟨fun _=>False,fun d=>d = .bl true,fun _=>False,fun _=>False⟩ (.no :: .val .fl::List.replicate N.length .no)) (hlp:xt.lp=true/\xt.gx=[]:=by exact⟨rfl,rfl⟩) :
  FnOk P w K mg base pA (k+1) f0 fd ["_law_script"] (pM K):=by
 refine F.ok S (fun vs H Q E h=>?_) (fun cdv A outer s H vs Q E hr q=>?_)
 ·obtain⟨a,ns,rfl,_⟩:=h;rfl
 obtain⟨a,ns,rfl,hS,h63,q⟩:=q;refine⟨zQ (yf (mC (lZ K) [] E0 (nQ (lC 0) vV)) (oh 1)) (LS K (fun _=>True) t),?_,?_⟩
 ·rw [hb];refine jP (lc S.nd rfl hl (oJ g hr (jg (lh rfl ?_ rfl rfl) pa_nil rfl) hk hg rfl rfl rfl) rfl (.inl rfl)) ?_
  ·rcases hv with z|z
   ·exact .inl z
   ·exact .inr (.inl z)
  refine (oB n).2 (T:=⟨"_law_script" :: "_law_flow_here" :: N,jf st,G,gc,k,fz,own,mu,[],xt⟩) ⟨⟨rfl,S.nd,rfl,hr,fun x h=>?_,fun x h=>h,fun x h=>h,fun x h=>h,hG,hgc,B,fun x h=>⟨h,rfl⟩,fun _ _ _ h=>absurd h ah,hx,fun z=>absurd hlp.2 z⟩,rfl,?_,fun _=>rfl,fun _=>rfl,fun z=>(by rw [hlp.1] at z;cases z),rfl,rfl⟩ ht
  ·have h:zF ((jf st).names.lookup x)=true:=h;unfold xn;show (jf st).names.lookup x=_\/(jf st).names.lookup x=_\/(jf st).names.lookup x=_;cases q:(jf st).names.lookup x with
   | none=>rw [q] at h;cases h
   | some k=>rw [q] at h;cases k <;> first|exact .inl rfl|exact .inr (.inl rfl)|exact .inr (.inr rfl)|cases h
  ·show (if (jf st).kind.isAnnotationScope then ScopeKind.function else (jf st).kind) = .function;rw [S.kind];rfl
 ·refine⟨_,rfl,a,ns,rfl,hS,h63,fun f H1 e1 fl hf=>?_⟩;have ef:(L2.start ("_law_script" :: "_law_flow_here" :: N) [V.ref a]).set 1 (some (V.ref f))=some (.ref a)::some (.ref f)::List.replicate N.length none:=rfl;show LS K (fun _=>True) t _ ((L2.start ("_law_script" :: "_law_flow_here" :: N) [V.ref a]).set 1 (some (V.ref f))) H1;rw [ef];have gt:∀{i:Nat} {x:SD},(SD.no::SD.val .fl::List.replicate N.length SD.no)[i]? = some x->x = .no\/(i=1/\x = .val .fl):=fun {i x} h=>by
   match i,h with
   | 0,h=>cases h;exact .inl rfl
   | 1,h=>cases h;exact .inr ⟨rfl,rfl⟩
   | i+2,h=>exact .inl (cZ (aK (show (List.replicate N.length SD.no)[i]? = some x from h)))
  refine⟨⟨f,[f],H1,[f]⟩,[f],SD.no::SD.val .fl::List.replicate N.length SD.no,⟨⟨fl,am.mpr rfl,fun b hb=>?_,fun l r e z=>?_,by simp,fun i d hd=>?_,fun i l hd=>?_,fun _ _=>trivial⟩,fun _ h=>h,⟨fun _ _ h _ _=>h,fun l r h=>⟨r,h⟩⟩,fun b h=>.inl h,fun i l b hd=>?_,fun _ _ _=>trivial⟩,?_⟩
  ·rw [am.mp hb];exact fl.lst
  ·have z:=am.mp z;subst z;obtain⟨l0,ns0,i,c,a0,b,h1,h2,_⟩:=fl;rw [h1] at e;cases e;rw [h1] at h2;cases ns0 <;> cases h2
  ·rcases gt hd with e|⟨rfl,e⟩
   ·cases e
   ·cases e;exact⟨_,rfl,rfl⟩
  ·rcases gt hd with e|⟨_,e⟩ <;> cases e
  ·rcases gt hd with e|⟨_,e⟩ <;> cases e
  ·refine t.mono ?_ h;refine⟨fun s z=>z.elim,fun d z v H' R=>?_,fun s z=>z.elim,fun s z=>z.elim⟩;subst z;cases (show v=_ from R.rp);exact q H'
theorem yO{st:Stmt}{f0:Addr}{fd:FuncData}{N:List Str}{n k:Nat}{t:TSd}{rest:List Stmt}{p1 p2 p3 p4 p5:Pos}{G:List (Str×Nat×SpB)}{gc:List (Str×D)}{fz:List (Nat×List Nat)}{own mu:List Nat}(F:Fun K "law" "law" st f0 fd)(B:Bl mg)(S:FnScope ("_law_script" :: "_law_flow_here" :: N) ["_law_script"] (jf st))
  (g:Def P w K mg base "_law_flow" 1 ["_law_script"] (lZ K)) (hG:∀ x j s,(x,j,s)∈G->∃ ps,Def P w K mg base x j ps (mM K s.n s.run)) (hgc:∀ x d,(x,d)∈gc->∃ v u,mg x=some u/\RelV v u/\∀ f O H,Rp K f O H d v)
  (hb:jw st = .Assign [.Name "_law_flow_here" p1] (.Call (.Name "_law_flow" p2) [.Name "_law_script" p3] [] p4) p5::rest) (hk:1<=k) (hv:(jf st).names.lookup ("_law_script" : Str)=some .local\/(jf st).names.lookup ("_law_script" : Str)=some .cell) (hl:(jf st).names.lookup ("_law_flow_here" : Str)=some .local\/(jf st).names.lookup ("_law_flow_here" : Str)=some .cell) (hg:(jf st).names.lookup ("_law_flow" : Str)=some .globalImplicit)
  (ht:pz n ⟨"_law_script" :: "_law_flow_here" :: N,jf st,G,gc,k,fz,own,mu,[],{}⟩ rest=some t) (h:t.run ⟨fun _=>False,fun d=>d = .bl true,fun _=>False,fun _=>False⟩ (.no :: .val .fl::List.replicate N.length .no)) :
  FnOk P w K mg base pA (k+1) f0 fd ["_law_script"] (pM K):=ww F B S g hG hgc XtOk.no hb hk hv hl hg ht h
end
section
open PySem L2 Dp
variable{P:Program}{w:World}{K:Frag}{Jx:Hp->Prop}{mg:Str->Option Value}{base:Heap}
theorem CZ:∀(x:Str) (j:Nat) (s:SpB),(x,j,s)∈([]:List (Str×Nat×SpB))->∃ ps,Def P w K mg base x j ps (mM K s.n s.run):=fun _ _ _ h=>absurd h ah
theorem oa{y:Str}{i:Nat}{r:SpB}{ps:List Str}{G:List (Str×Nat×SpB)}(g:Def P w K mg base y i ps (mM K r.n r.run))(h:∀(x:Str) (j:Nat) (s:SpB),(x,j,s)∈G->∃ ps,Def P w K mg base x j ps (mM K s.n s.run)):∀(x:Str) (j:Nat) (s:SpB),(x,j,s)∈(y,i,r)::G->∃ ps,Def P w K mg base x j ps (mM K s.n s.run):=fun x j s e=>by
 rcases ai.mp e with e|e
 ·cases e;exact⟨ps,g⟩
 ·exact h x j s e
theorem og:∀(x:Str) (d:D),(x,d)∈([]:List (Str×D))->∃ v u,mg x=some u/\RelV v u/\∀ f O H,Rp K f O H d v:=fun _ _ h=>absurd h ah
theorem BY{y:Str}{c:D}{gc:List (Str×D)}(g:∃ v u,mg y=some u/\RelV v u/\∀ f O H,Rp K f O H c v)(h:∀(x:Str) (d:D),(x,d)∈gc->∃ v u,mg x=some u/\RelV v u/\∀ f O H,Rp K f O H d v):∀(x:Str) (d:D),(x,d)∈(y,c)::gc->∃ v u,mg x=some u/\RelV v u/\∀ f O H,Rp K f O H d v:=fun x d e=>by
 rcases ai.mp e with e|e
 ·cases e;exact g
 ·exact h x d e
end
section
open PySem L2 Dp
variable{P:Program}{w:World}{K:Frag}{Jx:Hp->Prop}{mg:Str->Option Value}{base:Heap}
structure Sl (K:Frag)(f:Addr)(x:Str)(st:Stmt):Prop where
 a:PySem.W.nsIn K mainGlobals x=some (some (.ref f))
 ex:∃ fd,Fun K x x st f fd
theorem sl{f:Addr}{x:Str}{st:Stmt}{oc:Value}{od an:Option Addr}{osl:Array (Option Value)}{kV doc pm cdv ct:Value}(a:PySem.W.nsIn K mainGlobals x=some (some (.ref f)))(l:K.lookup f=some ⟨oc,od,.func (PySem.W.fnOf x x (jZ st) (jw st) (jf st) .none kV doc pm an cdv ct),osl⟩)(c:PySem.W.codeIn K cdv x=true)(k:PySem.W.keepIn K (.ref f)=true):Sl K f x st:=⟨a,_,vj l c k⟩
abbrev Mg(K:Frag)(mg:Str->Option Value):Prop:=∀(x:Str) (f:Addr),PySem.W.nsIn K mainGlobals x=some (some (.ref f))->mg x=some (.ref f)
def Cj(N ps:List Str)(sc:Scope):Bool:=decide (N.Nodup) && decide (N.take ps.length=ps) && (ps.all fun x=>decide (sc.names.lookup x=some .local) || decide (sc.names.lookup x=some .cell)) && sc.names.all fun y=>decide (y.2 ≠ .free)
theorem sc{N ps:List Str}{sc:Scope}(h:Cj N ps sc=true)(h1:sc.kind = .function)(h2:sc.isCoroutine=false)(h3:sc.isGenerator=false):FnScope N ps sc:=by
 unfold Cj at h;obtain⟨h,d⟩:=ad.mp h;obtain⟨h,c⟩:=ad.mp h;obtain⟨a,b⟩:=ad.mp h;refine⟨h1,h2,h3,of_decide_eq_true a,of_decide_eq_true b,fun x hx=>?_,fun y hy=>of_decide_eq_true (aQ.mp d y hy)⟩;rcases du.mp (aQ.mp c x hx) with z|z
 ·exact .inl (of_decide_eq_true z)
 ·exact .inr (of_decide_eq_true z)
abbrev o0:List (Nat×List Nat)×List Nat×List Nat:=([],[],[])
abbrev BA(x:Str)(st:Stmt)(kV doc pm:Value)(an:Option Addr)(cdv ct:Value)(us:List Value):=bindArgs (PySem.W.fnOf x x (jZ st) (jw st) (jf st) .none kV doc pm an cdv ct) ⟨us,[]⟩
theorem BW:∀(x:Str) (j:Nat) (s:SpB),(x,j,s)∈([]:List (Str×Nat×SpB))->∃ ps,Def P w K mg base x j ps (tY K s.n s.run):=fun _ _ _ h=>absurd h ah
theorem qu{x:Str}{st:Stmt}{f:Addr}{N ps:List Str}(k:Nat)(H:List (Nat×List Nat)×List Nat×List Nat){t:TSd}{s:SpB}{G:List (Str×Nat×SpB)}{gc:List (Str×D)}(S:Sl K f x st)(W:Mg K mg)(B:Bl mg)(C:FnScope N ps (jf st))(hn:s.n=ps.length)
  (hG:∀ x j s,(x,j,s)∈G->∃ ps,Def P w K mg base x j ps (mM K s.n s.run)) (hgc:∀ x d,(x,d)∈gc->∃ v u,mg x=some u/\RelV v u/\∀ f O H,Rp K f O H d v)
  (hb:∀(kV doc pm:Value) (an:Option Addr) (cdv ct:Value) (us:List Value),us.length=ps.length->BA x st kV doc pm an cdv ct us=pure (ps.zip us))
  (ht:pz 40 ⟨N,jf st,G,gc,k,H.1,H.2.1,H.2.2,[],{}⟩ (jw st)=some t) (h:Does N.length t s):Def P w K mg base x (k+1) ps (mM K s.n s.run):=by
 obtain⟨a,fd,F⟩:=S;exact .of F (W _ _ a) (F.binds hb) (uS (n:=40) (fz:=H.1) (own:=H.2.1) (mu:=H.2.2) F B C hn hG hgc BW XtOk.no ht h)
theorem BH{x:Str}{st:Stmt}{f:Addr}{N ps:List Str}(k:Nat)(H:List (Nat×List Nat)×List Nat×List Nat){t:TSd}{s:SpB}{G:List (Str×Nat×SpB)}{gc:List (Str×D)}{xt:Xt}(S:Sl K f x st)(W:Mg K mg)(B:Bl mg)(C:FnScope N ps (jf st))(hn:s.n=ps.length)
  (hG:∀ x j s,(x,j,s)∈G->∃ ps,Def P w K mg base x j ps (mM K s.n s.run)) (hgc:∀ x d,(x,d)∈gc->∃ v u,mg x=some u/\RelV v u/\∀ f O H,Rp K f O H d v) (hx:XtOk P w K mg base xt)
  (hb:∀(kV doc pm:Value) (an:Option Addr) (cdv ct:Value) (us:List Value),us.length=ps.length->BA x st kV doc pm an cdv ct us=pure (ps.zip us))
  (ht:pz 40 ⟨N,jf st,G,gc,k,H.1,H.2.1,H.2.2,[],xt⟩ (jw st)=some t) (h:Does N.length t s) (hlp:xt.lp=true/\xt.gx=[]:=by exact⟨rfl,rfl⟩):Def P w K mg base x (k+1) ps (mM K s.n s.run):=by
 obtain⟨a,fd,F⟩:=S;exact .of F (W _ _ a) (F.binds hb) (uS (n:=40) (fz:=H.1) (own:=H.2.1) (mu:=H.2.2) F B C hn hG hgc BW hx ht h hlp)
theorem Cl{x:Str}{st:Stmt}{f:Addr}{N ps:List Str}(k:Nat)(H:List (Nat×List Nat)×List Nat×List Nat){t:(D->Prop)->TSd}{s:SpX}{G:List (Str×Nat×SpB)}{gc:List (Str×D)}{xt:(D->Prop)->Xt}(S:Sl K f x st)(W:Mg K mg)(B:Bl mg)(C:FnScope N ps (jf st))(hn:s.n=ps.length)
  (hG:∀ x j s,(x,j,s)∈G->∃ ps,Def P w K mg base x j ps (mM K s.n s.run)) (hgc:∀ x d,(x,d)∈gc->∃ v u,mg x=some u/\RelV v u/\∀ f O H,Rp K f O H d v) (hx:∀ E,XtOk P w K mg base (xt E))
  (hb:∀(kV doc pm:Value) (an:Option Addr) (cdv ct:Value) (us:List Value),us.length=ps.length->BA x st kV doc pm an cdv ct us=pure (ps.zip us))
  (ht:∀ E,pz 40 ⟨N,jf st,G,gc,k,H.1,H.2.1,H.2.2,[],xt E⟩ (jw st)=some (t E)) (h:sE N.length t s) (hE:∀ E,(xt E).E=E/\(xt E).lp=false):DefX P w K mg base x f (k+1) ps (j6 K s):=by
 obtain⟨a,fd,F⟩:=S;exact⟨fd,wz (n:=40) (fz:=H.1) (own:=H.2.1) (mu:=H.2.2) F B C hn hG hgc BW hx ht h hE,W _ _ a,F.kp,F.binds hb⟩
theorem u0{us:List Value}{n:Nat}(h:us.length=n+1):∃ a r,us=a::r/\r.length=n:=by
 cases us with
 | nil=>exact absurd h (Nat.succ_ne_zero n).symm
 | cons a r=>exact⟨a,r,rfl,Nat.succ.inj h⟩
theorem u1{us:List Value}(h:us.length=1):∃ a,us=[a]:=by
 obtain⟨a,r,rfl,h1⟩:=u0 (n:=0) h;exact⟨a,by rw [cc.mp h1]⟩
theorem u2{us:List Value}(h:us.length=2):∃ a b,us=[a,b]:=by
 obtain⟨a,r,rfl,h1⟩:=u0 (n:=1) h;obtain⟨b,rfl⟩:=u1 h1;exact⟨a,b,rfl⟩
theorem b1{x:Str}{st:Stmt}{p:Str}(h:∀(kV doc pm:Value) (an:Option Addr) (cdv ct u:Value),BA x st kV doc pm an cdv ct [u]=pure [(p,u)]):∀(kV doc pm:Value) (an:Option Addr) (cdv ct:Value) (us:List Value),us.length=[p].length->BA x st kV doc pm an cdv ct us=pure ([p].zip us):=fun _ _ _ _ _ _ us hl=>by
 obtain⟨_,rfl⟩:=u1 hl;exact h ..
theorem b2{x:Str}{st:Stmt}{p q:Str}(h:∀(kV doc pm:Value) (an:Option Addr) (cdv ct u v:Value),BA x st kV doc pm an cdv ct [u,v]=pure [(p,u),(q,v)]):∀(kV doc pm:Value) (an:Option Addr) (cdv ct:Value) (us:List Value),us.length=[p,q].length->BA x st kV doc pm an cdv ct us=pure ([p,q].zip us):=fun _ _ _ _ _ _ us hl=>by
 obtain⟨_,_,rfl⟩:=u2 hl;exact h ..
end
end Ds
namespace Ds
open PySem L2 Ex8 Dp
variable{P:Program}{w:World}{K:Frag}{mg:Str->Option Value}{base:Heap}{C N f:Addr}
def t8(K:Frag)(C N:Addr):Bool:=(PySem.W.clsIn K C).any (fun cd=>cd.mro == .ref C :: .ref N::sD && cd.hasDict) && PySem.W.findIn K (.ref C) "__setattr__" == some (some (.builtin "object.__setattr__")) && PySem.W.findIn K (.ref C) "__getattribute__" == some (some (.builtin "BaseException.__getattribute__")) &&
 PySem.W.findIn K (.ref C) "__getattr__" == some none && PySem.W.findIn K (.ref C) "__class__" == some (some (.builtin "object.__class__")) && PySem.W.specialIn K (.builtin "object.__class__") "__get__" == some (some (.builtin "getset_descriptor.__get__")) && PySem.W.takesIn K (.builtin "object.__class__") == some true
theorem xq(h:t8 K C N=true):∃ cd,Xi K C N cd:=by
 unfold t8 at h;simp only [ax,beq_iff_eq] at h;obtain⟨⟨⟨⟨⟨⟨h1,h2⟩,h3⟩,h4⟩,h5⟩,h6⟩,h7⟩:=h;cases e:PySem.W.clsIn K C with
 | none=>rw [e] at h1;cases h1
 | some cd =>
  rw [e] at h1;have h1:(cd.mro == .ref C :: .ref N::sD && cd.hasDict)=true:=h1;obtain⟨a,b⟩:=ad.mp h1;exact⟨cd,⟨e,beq_iff_eq.mp a,b,h2,h3,h4⟩,h5,h6,h7⟩
structure Xs (K:Frag)(C N f:Addr)(x qual fld:Str)(st:Stmt):Prop where
 a:PySem.W.nsIn K mainGlobals x=some (some (.ref C))
 m:lA K C N=true
 k:PySem.W.keepIn K (.ref C)=true
 i:PySem.W.findIn K (.ref C) "__init__" = some (some (.ref f))
 t:PySem.W.typeIn K (.ref f)=some (.type "function")
 x:t8 K C N=true
 n:PySem.W.findIn K (.ref C) fld=some none
 F:∃ fd,Fun K "__init__" qual st f fd
theorem xs{x qual fld:Str}{st:Stmt}{oc:Value}{od an:Option Addr}{osl:Array (Option Value)}{kV doc pm cdv ct:Value}(a:PySem.W.nsIn K mainGlobals x=some (some (.ref C)))(m:lA K C N=true)(k:PySem.W.keepIn K (.ref C)=true)(i:PySem.W.findIn K (.ref C) "__init__" = some (some (.ref f)))
  (t:PySem.W.typeIn K (.ref f)=some (.type "function")) (xi:t8 K C N=true) (n:PySem.W.findIn K (.ref C) fld=some none) (l:K.lookup f=some ⟨oc,od,.func (PySem.W.fnOf "__init__" qual (jZ st) (jw st) (jf st) .none kV doc pm an cdv ct),osl⟩)
  (c:PySem.W.codeIn K cdv qual=true) (kf:PySem.W.keepIn K (.ref f)=true):Xs K C N f x qual fld st:=⟨a,m,k,i,t,xi,n,_,vj l c kf⟩
theorem wx{qual pn fld:Str}{st:Stmt}{fd:FuncData}{p1 p2 p3 p4:Pos}(F:Fun K "__init__" qual st f fd)(S:FnScope ["self",pn] ["self",pn] (jf st))(hb:jw st=[.Assign [.Attribute (.Name "self" p1) fld p2] (.Name pn p3) p4])
  (h0:(jf st).names.lookup ("self" : Str)=some .local) (h1:(jf st).names.lookup pn=some .local) (hd:(pn == ("__debug__" : Str))=false) (hc:(pn == ("__classdict__" : Str))=false):FnOk P w K mg base pA 1 f fd ["self",pn] (Ci K fld):=by
 refine F.ok S (fun vs H Q E h=>?_) (fun cdv A outer s H vs Q E hr h=>?_)
 ·obtain⟨e,C,N,cd,u,y,rfl,_⟩:=h;rfl
 obtain⟨e,C,N,cd,u,y,rfl,he,c,n,q⟩:=h;rw [hb];refine⟨_,jC (v7 (lh (i:=0) rfl (.inl h0) rfl rfl) (lh (i:=1) rfl (.inl h1) hd hc) rfl),?_⟩;exact⟨_,rfl,_,rfl,e,C,N,cd,u,rfl,he,c,n,fun dx hd ne=>q dx hd ne⟩
theorem Xs.xdef{x qual fld pn:Str}{st:Stmt}{p1 p2 p3 p4:Pos}(h:Xs K C N f x qual fld st)(W:Mg K mg)(S:FnScope ["self",pn] ["self",pn] (jf st))(hb:jw st=[.Assign [.Attribute (.Name "self" p1) fld p2] (.Name pn p3) p4])
  (h0:(jf st).names.lookup ("self" : Str)=some .local) (h1:(jf st).names.lookup pn=some .local) (hd:(pn == ("__debug__" : Str))=false) (hc:(pn == ("__classdict__" : Str))=false)
  (ha:∀(kV doc pm:Value) (an:Option Addr) (cdv ct:Value) (us:List Value),us.length=2->bindArgs (PySem.W.fnOf "__init__" qual (jZ st) (jw st) (jf st) .none kV doc pm an cdv ct) ⟨us,[]⟩=pure ((["self",pn]:List Str).zip us)):XDef P w K mg base x 1 C fld:=by
 obtain⟨fd,F⟩:=h.F;obtain⟨cd,xi⟩:=xq h.x;exact⟨f,fd,["self",pn],N,cd,wx F S hb h0 h1 hd hc,W _ _ h.a,h.k,F.binds ha,h.m,h.i,h.t,xi.toXc,h.n⟩
variable{x8:X8}
def CD(x8:X8)(gx:List (Str×Nat×Addr×SpX))(E:D->Prop):Xt:={ xc:=[("BadText",1,x8.BadText, "at")],gx:=gx,E:=E,lp:=false }
theorem t6{gx:List (Str×Nat×Addr×SpX)}(x1:XDef P w K mg base "BadText" 1 x8.BadText "at")(hg:∀ x j g s,(x,j,g,s)∈gx->∃ ps,DefX P w K mg base x g j ps (j6 K s))(E:D->Prop):XtOk P w K mg base (CD x8 gx E) where
 xi:=fun _ _ h=>absurd h ah
 xf:=fun _ _ h=>absurd h ah
 x0:=fun _ _ h=>absurd h ah
 xc:=fun y i C x h=>by
  cases am.mp h;exact x1
 gx:=hg
 tab:=fun _ _ _ h=>absurd h ah
 xs:=fun _ _ h=>absurd h ah
 xm:=fun _ _ _ h=>absurd h ah
theorem Cr:∀(x:Str) (j:Nat) (g:Addr) (s:SpX),(x,j,g,s)∈([]:List (Str×Nat×Addr×SpX))->∃ ps,DefX P w K mg base x g j ps (j6 K s):=fun _ _ _ _ h=>absurd h ah
theorem CY{y:Str}{i:Nat}{fa:Addr}{r:SpX}{ps:List Str}{G:List (Str×Nat×Addr×SpX)}(d:DefX P w K mg base y fa i ps (j6 K r))(h:∀(x:Str) (j:Nat) (g:Addr) (s:SpX),(x,j,g,s)∈G->∃ ps,DefX P w K mg base x g j ps (j6 K s)):∀(x:Str) (j:Nat) (g:Addr) (s:SpX),(x,j,g,s)∈(y,i,fa,r)::G->∃ ps,DefX P w K mg base x g j ps (j6 K s):=fun x j g s e=>by
 rcases ai.mp e with e|e
 ·cases e;exact⟨ps,d⟩
 ·exact h x j g s e
def zL(x8:X8)(cE:Addr)(tab:List (Addr×Nat×SpX)):Xt:={ xi:=[("BadText",x8.isBadText),("ValueError",x8.isValueError)],xf:=[("at",x8.has_at)],tab:=tab,xm:=[("NestError",cE,x8.all)],xs:=[(["NoName", "NoRow", "TooGreat", "Twice"],x8.isNoNameNoRowTooGreatTwice)] }
def yV(K:Frag)(cB cE cN cR cG cT:Addr):Bool:=PySem.W.kitOne K (.ref cB) (.ref cB) == some true && PySem.W.kitOne K (.ref cB) (.type "ValueError") == some true && PySem.W.kitAny K (.ref cB) ([cN,cR,cG,cT].map Value.ref) == some false && PySem.W.exmOne K (.ref cB) (.ref cE) == some true
theorem qd{C:Addr}{i:Nat}(h:x8.ix C=some i):C=x8.BadText/\i=0:=by
 unfold X8.ix at h;split at h
 ·rename_i e;cases h;exact⟨e,rfl⟩
 ·cases h
theorem xU{cE cN cR cG cT:Addr}{tab:List (Addr×Nat×SpX)}(W:Mg K mg)(x:t8 K x8.BadText cE=true)(kit:yV K x8.BadText cE cN cR cG cT=true)(n:PySem.W.findIn K (.ref x8.BadText) "at" = some none)(aB:PySem.W.nsIn K mainGlobals "BadText" = some (some (.ref x8.BadText)))(aE:PySem.W.nsIn K mainGlobals "NestError" = some (some (.ref cE)))(eV:mg "ValueError" = none)(bV:bootBuiltins "ValueError" = some (.type "ValueError"))
  (aN:PySem.W.nsIn K mainGlobals "NoName" = some (some (.ref cN))) (aR:PySem.W.nsIn K mainGlobals "NoRow" = some (some (.ref cR))) (aG:PySem.W.nsIn K mainGlobals "TooGreat" = some (some (.ref cG))) (aT:PySem.W.nsIn K mainGlobals "Twice" = some (some (.ref cT)))
  (ht:∀ g j s,(g,j,s)∈tab->∃ x ps,DefX P w K mg base x g j ps (j6 K s)):XtOk P w K mg base (zL x8 cE tab):=by
 unfold yV at kit;simp only [ax,beq_iff_eq] at kit;obtain⟨⟨⟨k1,k2⟩,k3⟩,k4⟩:=kit;obtain⟨cd,xi⟩:=xq x;refine⟨fun y g h=>?_,fun y o h C hC=>?_,fun _ _ h=>absurd h ah,fun _ _ _ _ h=>absurd h ah,fun _ _ _ _ h=>absurd h ah,ht,fun ns g h=>?_,fun y Nc m h=>?_⟩
 ·unfold zL at h;simp only [ai,Prod.mk.injEq,ah,or_false] at h;rcases h with⟨rfl,rfl⟩|⟨rfl,rfl⟩
  ·refine⟨_,.inl ⟨_,rfl,W _ _ aB⟩,fun C k h=>?_⟩;obtain⟨i,h1,rfl⟩:=aa.mp h;obtain⟨rfl,rfl⟩:=qd h1;exact⟨cE,cd,xi,k1⟩
  ·refine⟨_,.inr ⟨_,rfl,eV,by decide,bV⟩,fun C k h=>?_⟩;obtain⟨i,h1,rfl⟩:=aa.mp h;obtain⟨rfl,rfl⟩:=qd h1;exact⟨cE,cd,xi,k2⟩
 ·unfold zL at h;cases am.mp h;have e:=beq_iff_eq.mp (show (x8.ix C == some 0)=true from hC);obtain⟨rfl,_⟩:=qd e;exact⟨cE,cd,xi.toXc,n⟩
 ·unfold zL at h;cases am.mp h;refine⟨[cN,cR,cG,cT],by show (4:Nat)<=100;decide,?_,fun C k h=>?_⟩
  ·show [mg "NoName",mg "NoRow",mg "TooGreat",mg "Twice"]=_;rw [W _ _ aN,W _ _ aR,W _ _ aG,W _ _ aT];rfl
  ·obtain⟨i,h1,rfl⟩:=aa.mp h;obtain⟨rfl,rfl⟩:=qd h1;exact⟨cE,cd,xi,k3⟩
 ·unfold zL at h;cases am.mp h;refine⟨W _ _ aE,fun C hC=>?_⟩;have hC:(x8.ix C).isSome=true:=hC;obtain⟨i,h1⟩:=cQ.mp hC;obtain⟨rfl,rfl⟩:=qd h1;exact k4
theorem w9{x z:Str}{t:Tok}{h:Heap}(X:K.In h)(G:h.Ns mainGlobals mg)(a:PySem.W.nsIn K mainGlobals x=some (some (.str z t))):∃ v u,mg x=some u/\RelV v u/\∀ f O H,Rp K f O H (.str z) v:=⟨.str z,_,PySem.W.mg_of X G a,⟨t,rfl⟩,fun _ _ _=>rfl⟩
theorem xa{x:Str}{i:Int}{t:Tok}{h:Heap}(X:K.In h)(G:h.Ns mainGlobals mg)(a:PySem.W.nsIn K mainGlobals x=some (some (.int i t))):∃ v u,mg x=some u/\RelV v u/\∀ f O H,Rp K f O H (.int i) v:=⟨.int i,_,PySem.W.mg_of X G a,⟨t,rfl⟩,fun _ _ _=>rfl⟩
theorem zn{x:Str}{g:Addr}(W:Mg K mg)(a:PySem.W.nsIn K mainGlobals x=some (some (.ref g))):∃ v u,mg x=some u/\RelV v u/\∀ f O H,Rp K f O H (.fn g) v:=⟨.ref g,_,W _ _ a,rfl,fun _ _ _=>rfl⟩
theorem Bb:∀(g:Addr) (j:Nat) (s:SpX),(g,j,s)∈([]:List (Addr×Nat×SpX))->∃ x ps,DefX P w K mg base x g j ps (j6 K s):=fun _ _ _ h=>absurd h ah
theorem Ba{y:Str}{i:Nat}{fa:Addr}{r:SpX}{ps:List Str}{G:List (Addr×Nat×SpX)}(d:DefX P w K mg base y fa i ps (j6 K r))(h:∀(g:Addr) (j:Nat) (s:SpX),(g,j,s)∈G->∃ x ps,DefX P w K mg base x g j ps (j6 K s)):∀(g:Addr) (j:Nat) (s:SpX),(g,j,s)∈(fa,i,r)::G->∃ x ps,DefX P w K mg base x g j ps (j6 K s):=fun g j s e=>by
 rcases ai.mp e with e|e
 ·cases e;exact⟨y,ps,d⟩
 ·exact h g j s e
theorem CV{β:Type}{a:Addr}{v:β}{l:List (Addr×β)}:((a,v)::l).lookup a=some v:=by rw [bp,beq_self_eq_true]
end Ds
namespace Dp
open PySem L2
open Tx (ft)
def d9:SpB:=.of 1 (α:=Int×Int) (fun x ds=>ds=[fD x.1 x.2]/\0<x.2/\x.1.natAbs<10^64/\x.2.natAbs<10^64) (fun x d=>d = .str (ft x.1 x.2))
def fi:TSd:=(d5 [] (dW .Add (dB bStr bStr.mono (dP (dIx (dQ 0) (dC (.int 0))) dS)) (dIx (eX (dP (dW .Add (dC (.str "/")) (dB bStr bStr.mono (dP (dIx (dQ 0) (dC (.int 1))) dS))) (dP (dC (.str "")) dS))) (dB bInt bInt.mono (dP (d7 .Eq (dIx (dQ 0) (dC (.int 1))) (dC (.int 1))) dS)))))
theorem jY{t:Int}{k:Nat}(hk:1<=k)(h:t.natAbs<10^k):(toString t:Str).length<=k+1:=by
 have:=Tx.lK hk h;rw [Tx.jz] at this;rw [Tx.jz,Tx.vM,aF];split
 ·rw [bK];(first|lia|omega)
 ·rw [cq];(first|lia|omega)
theorem kM{t:Int}{k:Nat}(h:t.natAbs<10^k)(hk:k<=200):t.natAbs.log2<1920:=u6 (ak h (aZ (by decide) hk))
theorem nU{u:Int}{k:Nat}(hk:1<=k)(h:u.natAbs<10^k):(("/" : Str)++(toString u:Str)).length<=k+2:=by
 have:=jY hk h;rw [Str.length_append];have:("/" : Str).length=1:=by decide +kernel
 (first|lia|omega)
theorem q9{t u:Int}{k:Nat}(hk:1<=k)(ht:t.natAbs<10^k)(hu:u.natAbs<10^k):(ft t u).length<=2*k+3:=by
 unfold ft;have h1:=jY hk ht;have h2:=nU hk hu;rw [Str.length_append];split
 ·have:("" : Str).length=0:=by decide +kernel
  (first|lia|omega)
 ·(first|lia|omega)
theorem eQ:Does 1 fi d9:=by
 rintro ds Q _ ⟨⟨t,u⟩,⟨rfl,u0,ht,hu⟩,q⟩;dsimp only at u0 ht hu q;have h1:=jY (k:=64) (by decide) ht;have h2:=nU (k:=64) (by decide) hu;have h3:=jY (k:=64) (by decide) hu;have h4:=q9 (k:=64) (by decide) ht hu;have l1:("/" : Str).length=1:=by decide +kernel
 refine⟨kM ht (by decide),kM hu (by decide),ko (by show ("/" : Str).length+(toString u:Str).length<=_;(first|lia|omega)),xx,?_⟩;show itD [.str (("/" : Str)++(toString u:Str)),.str ""] (if decide (u=1)=true then 1 else 0) fun y=>oBin .Add (.str (toString t)) y (jA Q).rt;by_cases c:u=1
 ·rw [if_pos (decide_eq_true c)];have l0:("" : Str).length=0:=by decide +kernel
  exact⟨ko (by show _+("" : Str).length<=_;(first|lia|omega)),q _ (by unfold ft;rw [if_pos c])⟩
 ·rw [if_neg (by simpa using c)];exact⟨ko (by first|lia|omega),q _ (by unfold ft;rw [if_neg c])⟩
def eF:SpB:=.of 1 (α:=Str) (fun z ds=>ds=[.str z]/\z.length<=90000) (fun z d=>d = .bl (Tx.jE z))
def gv:TSd:=(dSq (dIf [] (eZ (dZ (d7 .Eq (dB bLen bLen.mono (dP (dQ 0) dS)) (dC (.int 0)))) (eZ (dZ (d7 .Gt (dB bLen bLen.mono (dP (dQ 0) dS)) (dC (.int 40)))) (dZ (d7 .NotEq (eN (eW (dQ 0)) [1] (gNm 1) (dZ (d7 .NotIn (dQ 1) (dC (.str "0123456789")))) (dQ 1)) (eX dS)))))
 (d5 [] (dC (.bl false)))
 d3)
 (d5 [] (dOr (d7 .Eq (dQ 0) (dC (.str "0"))) (d7 .NotEq (dIx (dQ 0) (dC (.int 0))) (dC (.str "0"))))))
theorem uv{z:Str}(h:1<=z.length):∃ c,z.cps.toList[0]? = some c/\Tx.m8 z=(decide (z=("0" : Str)) || !decide ((⟨#[c]⟩:Str)=("0" : Str))):=by
 rw [Tx.jz] at h;refine⟨(Tx.L z)[0],aw h,?_⟩;unfold Tx.m8;congr 2;have e0:("0" : Str)=⟨#[48]⟩:=by decide +kernel
 rw [e0,aS,beq_iff_eq,decide_eq_true_eq];rw [List.head?_eq_getElem?,aw h];constructor
 ·intro q;injection q with q;rw [q]
 ·intro q;injection q with q;injection q with q;injection q with q;rw [q]
theorem fJ:Does 2 gv eF:=by
 rintro ds Q _ ⟨z,⟨rfl,hz⟩,q⟩;dsimp only at q;have rt:Tx.jE z=false->(jA Q).rt (.bl false):=fun h=>q _ (by rw [h]);refine⟨ko (by first|lia|omega),?_⟩;show if decide ((z.length:Int)=0)=true then _ else _;refine oZ (p:=(z.length:Int)=0) (fun c=>?_) (fun c=>?_)
 ·refine rt ?_;unfold Tx.jE;rw [bA];intro h;have:=(Tx.whl_iff.mp (ad.mp h).1).1
  (first|lia|omega)
 refine⟨ko (by first|lia|omega),?_⟩;show if decide ((40:Int)<(z.length:Int))=true then _ else _;refine oZ (p:=(40:Int)<(z.length:Int)) (fun c2=>?_) (fun c2=>?_)
 ·refine rt ?_;unfold Tx.jE;rw [bA];intro h;have:=(Tx.whl_iff.mp (ad.mp h).1).2.1
  (first|lia|omega)
 have hl:(mD z).length=z.length:=kI;refine⟨ko (by first|lia|omega),fun i ys=>ys=((z.cps.toList.take i).filter fun c => !decide (c∈Tx.L ("0123456789" : Str))).map fun c=>D.str ⟨#[c]⟩,rfl,?_,?_⟩
 ·rintro i d _ hd _ rfl;unfold mD at hd;rw [aV] at hd;obtain⟨c,hc,rfl⟩:=aa.mp hd;refine .inr (.inr (.inr ⟨_,_,rfl,rfl,?_⟩));show if (!zb ⟨#[c]⟩ "0123456789")=true then _ else _;unfold zb;rw [Tx.vd];have tk:z.cps.toList.take (i+1)=z.cps.toList.take i++[c]:=by rw [cS,hc];rfl
  refine zc (fun k=>?_) (fun k=>?_)
  ·show _++[D.str ⟨#[c]⟩]=_;rw [tk,dD,bG,List.filter_cons_of_pos (p:=fun c => !decide (c∈Tx.L ("0123456789" : Str))) k];rfl
  ·show _=_;rw [tk,dD,List.filter_cons_of_neg (by rw [k];exact ao),List.filter_nil,aD]
 ·rintro _ _ rfl;rw [hl,br (cm Tx.jz.symm)];have pl:∀ l:List Nat,D.pls (l.map fun c=>D.str ⟨#[c]⟩)=true:=fun l=>by
   induction l with
   | nil=>rfl
   | cons c r ih=>exact ih
  have dp:∀ l:List Nat,D.dps (l.map fun c=>D.str ⟨#[c]⟩)=0:=fun l=>by
   induction l with
   | nil=>rfl
   | cons c r ih=>show max 0 _=0;rw [ih];rfl
  refine⟨bq _,rfl,pl _,rfl,by rw [dp];exact bq _,fun k hk=>?_⟩;have ek:(!k) = !Tx.dg (Tx.L z):=by
   congr 1;rw [aS,hk,List.map_eq_nil_iff,List.filter_eq_nil_iff];unfold Tx.dg;rw [aQ];refine forall_congr' fun c=>imp_congr_right fun _=>?_;rw [show decide (c∈Tx.L ("0123456789" : Str))=(decide (48<=c) && decide (c<=57)) by rw [← Bool.decide_and];exact decide_eq_decide.mpr Tx.om];cases (decide (48<=c) && decide (c<=57)) <;> simp
  show if (!k)=true then _ else _;rw [ek];refine zc (fun h=>?_) (fun h=>?_)
  ·refine rt ?_;unfold Tx.jE Tx.mz;rw [show Tx.dg (Tx.L z)=false by simpa using h,bW,bI]
  ·have hw:Tx.mz z=true:=by
    unfold Tx.mz;rw [show Tx.dg (Tx.L z)=true by simpa using h,cA,ax,decide_eq_true_eq,decide_eq_true_eq]
    (first|lia|omega)
   obtain⟨c,hc,e0⟩:=uv (z:=z) (by first|lia|omega);have fg:Tx.jE z=(decide (z=("0" : Str)) || !decide ((⟨#[c]⟩:Str)=("0" : Str))):=by
    unfold Tx.jE;rw [hw,b9,e0]
   show if decide (z=("0" : Str))=true then _ else _;refine oZ (p:=z=("0" : Str)) (fun h=>?_) (fun h=>?_)
   ·exact q _ (by rw [fg,decide_eq_true h];rfl)
   ·refine⟨ko (by first|lia|omega),_,kQ (by rw [hc]),?_⟩;exact q _ (by rw [fg,decide_eq_false h];rfl)
def xA(z:Str):D:=match Tx.jD z with|some (t,u)=>fD t u|none=>.non
def eA:SpB:=.of 1 (α:=Str) (fun z ds=>ds=[.str z]/\z.length<=90000) (fun z d=>d=xA z)
def iq:TSd:=dSq (dIf [] (eZ (dZ (d7 .Lt (dQ 5) (dC (.int 2)))) (dZ (d7 .NotEq (dU eK (dP (dQ 4) (dP (dQ 5) dS))) (dC (.int 1)))))
 (d5 [] (dC .non))
 d3)
 (d5 [] (fH (dP (dW .Mult (dQ 1) (dQ 4)) (dP (dQ 5) dS))))
def gI:TSd:=dSq (gW [] 4 5 (dB bInt bInt.mono (dP (dIx (dQ 2) (dC (.int 0))) dS)) (dB bInt bInt.mono (dP (dIx (dQ 2) (dC (.int 1))) dS)))
 iq
def ir:TSd:=dSq (dIf [] (dZ (d7 .Eq (dB bLen bLen.mono (dP (dQ 2) dS)) (dC (.int 1))))
 (d5 [] (fH (dP (dW .Mult (dQ 1) (dB bInt bInt.mono (dP (dIx (dQ 2) (dC (.int 0))) dS))) (dP (dC (.int 1)) dS))))
 d3)
 gI
def gJ:TSd:=dSq (dIf [] (eZ (dZ (d7 .Gt (dB bLen bLen.mono (dP (dQ 2) dS)) (dC (.int 2)))) (eZ (eG (eM (dB bAll bAll.mono (dP (eN (eW (dQ 2)) [3] (gNm 3) iB (dU eF (dP (dQ 3) dS))) dS)))) (fP (dZ (d7 .Eq (dIx (dQ 2) (dC (.int 0))) (dC (.str "0")))) (dZ (d7 .NotEq (dQ 0) (dC (.str "0")))))))
 (d5 [] (dC .non))
 d3)
 ir
def iu:TSd:=dSq (d8 [] (gNm 2) (ia .split (dSl (dQ 0) (eH (dB bInt bInt.mono (dP (d7 .Lt (dQ 1) (dC (.int 0))) dS))) dNo) (dC (.str "/"))))
 gJ
def fj:TSd:=dSq (d8 [] (gNm 1) (dW .Sub (dC (.int 1)) (dW .Mult (dC (.int 2)) (dB bInt bInt.mono (dP (d7 .Eq (dSl (dQ 0) dNo (eH (dC (.int 1)))) (dC (.str "-"))) dS)))))
 iu
section
variable{Q:D->Prop}{z:Str}{s:Int}
theorem vK{p:Str}{R:D->Prop}(hp:Tx.jE p=true)(r:R (.int (Tx.val p))):bInt [.str p] R:=by
 obtain⟨h,_⟩:=ad.mp hp;have:=(Tx.whl_iff.mp h).2.1;exact⟨_,Tx.vc h,by first|lia|omega,r⟩
theorem uY{p:Str}(hp:Tx.jE p=true):CMulB (Tx.sg z) (Tx.val p:Int):=by
 have h:=qx (ad.mp hp).1;refine⟨2,300,?_,bJ h (by decide +kernel),by decide⟩;unfold Tx.sg;split <;> decide
theorem oM{p:Str}(e:Txt.split (Tx.rest z) "/" = [p]):Tx.jD z=if (Tx.jE p && Tx.rG p z)=true then some (Tx.sg z*(Tx.val p:Int),1) else none:=by
 unfold Tx.jD;rw [e]
theorem oK{p r:Str}(e:Txt.split (Tx.rest z) "/" = [p,r]):Tx.jD z=if (Tx.jE p && Tx.jE r && Tx.rG p z && (decide (2<=Tx.val r) && decide (Nat.gcd (Tx.val p) (Tx.val r)=1)))=true then some (Tx.sg z*(Tx.val p:Int),(Tx.val r:Int)) else none:=by
 unfold Tx.jD;rw [e]
theorem wg{ps:List Str}(e:Txt.split (Tx.rest z) "/" = ps)(h:2<ps.length):Tx.jD z=none:=by
 unfold Tx.jD;rw [e];split
 ·exact absurd h (by simp)
 ·exact absurd h (by simp)
 ·rfl
theorem kK(h:Tx.jD z=none):xA z = .non:=by unfold xA;rw [h]
theorem oF{t u:Int}(h:Tx.jD z=some (t,u)):xA z=fD t u:=by unfold xA;rw [h]
theorem Ar{p r:Str}{x3:SD}(e:Txt.split (Tx.rest z) "/" = [p,r])(hp:Tx.jE p=true)(hr:Tx.jE r=true)(hz:Tx.rG p z=true)(q:∀ d,d=xA z->Q d):gI.run (jA Q) [.val (.str z),.val (.int (Tx.sg z)),.val (.lst ([p,r].map D.str)),x3,.no,.no]:=by
 have e2:=oK e;rw [hp,hr,hz,b9,b9,b9] at e2;refine (lN (l:=[p,r].map D.str) (n:=0) (Q:=fun d=>bInt [d] fun a=>itD ([p,r].map D.str) 1 fun d'=>bInt [d'] fun b=>iq.run (jA Q) [.val (.str z),.val (.int (Tx.sg z)),.val (.lst ([p,r].map D.str)),x3,.val a,.val b]) rfl ?_);refine vK hp ?_;refine lN (l:=[p,r].map D.str) (n:=1) rfl ?_;refine vK hr ?_;show if decide ((Tx.val r:Int)<2)=true then _ else _;refine oZ (p:=(Tx.val r:Int)<2) (fun c=>?_) (fun c=>?_)
 ·refine q _ (kK ?_).symm;rw [e2,decide_eq_false (by first|lia|omega),bI];rfl
 refine⟨rfl,((Tx.val p:Int),(Tx.val r:Int)),rfl,?_⟩;rintro _ rfl;show if (!decide (Fr.cp (Tx.val p:Int) (Tx.val r:Int)=1))=true then _ else _;have eg:(Fr.cp (Tx.val p:Int) (Tx.val r:Int)=1)↔Nat.gcd (Tx.val p) (Tx.val r)=1:=by
  unfold Fr.cp Int.gcd;rw [bg,bg]
  (first|lia|omega)
 refine zI (p:=Fr.cp (Tx.val p:Int) (Tx.val r:Int)=1) (fun g=>?_) (fun g=>?_)
 ·refine q _ (kK ?_).symm;rw [e2,decide_eq_false (fun z=>g (eg.mpr z)),bW];rfl
 ·refine⟨uY hp,xx,q _ (oF ?_).symm⟩;rw [e2,decide_eq_true (eg.mp g),decide_eq_true (show 2<=Tx.val r by first|lia|omega)];rfl
theorem xL{p:Str}{l:List Str}{x3:SD}(e:Txt.split (Tx.rest z) "/" = p::l)(hl:l.length<=1)(hp:∀ a∈p::l,Tx.jE a=true)(hz:Tx.rG p z=true)(q:∀ d,d=xA z->Q d):ir.run (jA Q) [.val (.str z),.val (.int (Tx.sg z)),.val (.lst ((p::l).map D.str)),x3,.no,.no]:=by
 cases l with
 | nil =>
  have h1:=hp p ar;have e1:=oM e;rw [h1,hz] at e1;refine oZ (p:=((([p].map D.str).length:Nat):Int)=1) (A:=itD ([p].map D.str) 0 fun d=>bInt [d] fun a=>oBin .Mult (.int (Tx.sg z)) a fun m=>2<=sizeLine/\(jA Q).rt (.tup [m,.int 1])) (B:=gI.run (jA Q) [.val (.str z),.val (.int (Tx.sg z)),.val (.lst ([p].map D.str)),x3,.no,.no]) (fun _=>?_) (fun c=>absurd rfl c);refine lN (l:=[p].map D.str) (n:=0) rfl ?_;refine vK h1 ?_;exact⟨uY h1,xx,q _ (oF e1).symm⟩
 | cons r l =>
  cases l with
  | cons _ _=>exact absurd hl (by simp)
  | nil=>exact Ar e (hp p (by simp)) (hp r (by simp)) hz q
theorem vn{ps:List Str}{a b c d e:SD}{R:Bool->Prop}(hs:∀ p∈ps,p.length<=90000)(hl:ps.length<=1000000)(r:R ((ps.map Tx.jE).all id)):(eM (dB bAll bAll.mono (dP (eN (eW (dQ 2)) [3] (gNm 3) iB (dU eF (dP (dQ 3) dS))) dS))).run [a,b,.val (.lst (ps.map D.str)),c,d,e] R:=by
 refine⟨ko (by rw [aH];(first|lia|omega)),fun i ys=>ys=((ps.take i).map Tx.jE).map D.bl,rfl,?_,?_⟩
 ·rintro i d _ hd _ rfl;rw [aV] at hd;obtain⟨p,hp,rfl⟩:=aa.mp hd;refine⟨rfl,p,⟨rfl,hs p (aK hp)⟩,?_⟩;rintro _ rfl;show _=_;rw [cS,hp,bG,bG];rfl
 ·rintro _ _ rfl;rw [aH,br (aj _)];exact⟨_,rfl,r⟩
theorem As{p:Str}{l:List Str}(e:Txt.split (Tx.rest z) "/" = p::l)(hs:∀ a∈p::l,a.length<=90000)(hl:(p::l).length<=1000000)(q:∀ d,d=xA z->Q d):gJ.run (jA Q) [.val (.str z),.val (.int (Tx.sg z)),.val (.lst ((p::l).map D.str)),.no,.no,.no]:=by
 show if decide ((2:Int)<((((p::l).map D.str).length:Nat):Int))=true then _ else _;refine oZ (p:=(2:Int)<((((p::l).map D.str).length:Nat):Int)) (fun c=>?_) (fun c=>?_)
 ·exact q _ (kK (wg e (by rw [aH] at c;(first|lia|omega)))).symm
 rw [aH] at c;have hl1:l.length<=1:=by rw [aJ] at c;(first|lia|omega)
 rw [vv,sA];refine vn hs hl ?_;show if (!List.all ((p::l).map Tx.jE) id)=true then _ else _;refine zc (fun g=>?_) (fun g=>?_)
 ·refine q _ (kK ?_).symm;have g:List.all ((p::l).map Tx.jE) id=false:=bo _ |>.mp g;cases l with
  | nil =>
   rw [oM e];have:Tx.jE p=false:=by simpa using g
   rw [this];rfl
  | cons r l =>
   cases l with
   | cons _ _=>exact absurd hl1 (by simp)
   | nil =>
    rw [oK e];have:(Tx.jE p && Tx.jE r)=false:=by
     have g:(Tx.jE p && (Tx.jE r && true))=false:=g;rw [cA] at g;exact g
    rw [this,bI];rfl
 have g:∀ a∈p::l,Tx.jE a=true:=by
  have:List.all ((p::l).map Tx.jE) id=true:=by simpa using g
  rw [aQ] at this;exact fun a ha=>this _ (dq ha)
 have bad:Tx.rG p z=false->Tx.jD z=none:=fun h=>by
  cases l with
  | nil =>
   rw [oM e,h,bW];rfl
  | cons r l =>
   cases l with
   | cons _ _=>exact absurd hl1 (by simp)
   | nil =>
    rw [oK e,h,bW,bI];rfl
 refine lN (n:=0) rfl ?_;show if decide (p=("0" : Str))=true then _ else _;refine oZ (p:=p=("0" : Str)) (fun c1=>?_) (fun c1=>?_)
 ·show if (!decide (z=("0" : Str)))=true then _ else _;refine zI (p:=z=("0" : Str)) (fun c2=>?_) (fun c2=>?_)
  ·refine q _ (kK (bad ?_)).symm;unfold Tx.rG;rw [decide_eq_true c1,decide_eq_false c2];rfl
  ·exact xL e hl1 g (Tx.lX fun _=>c2) q
 ·exact xL e hl1 g (Tx.lX fun h=>absurd h c1) q
end
theorem vW{l:List Nat}{a:Nat}(h:a∈l):a<=l.sum:=by
 induction l with
 | nil=>cases h
 | cons b r ih =>
  rw [List.sum_cons];rcases ai.mp h with rfl|h
  ·(first|lia|omega)
  ·have:=ih h;(first|lia|omega)
theorem sT{y p:Str}{c:Nat}(h:p∈Txt.split y (Tx.S1 c)):p.length<=y.length:=by
 have h1:=Tx.mY y c;rw [← StrLaws.glued_eq_join] at h1;have h2:=PyProof.Rows.len_join_ge_sum (Tx.S1 c) (Txt.split y (Tx.S1 c));have h3:(Txt.join (Tx.S1 c) (Txt.split y (Tx.S1 c))).length=y.length:=by
  conv=>rhs;rw [← h1]
  rfl
 rw [h3] at h2;exact az (vW (dq h)) h2
theorem eS:Does 6 fj eA:=by
 rintro ds Q _ ⟨z,⟨rfl,hz⟩,q⟩;dsimp only at q;have lr:=pN z;obtain⟨p,l,e⟩:∃ p l,Txt.split (Tx.rest z) "/" = p::l:=by
  rw [Tx.slash];cases e:Txt.split (Tx.rest z) (Tx.S1 47) with
  | nil=>exact absurd e (Tx.pL _ _)
  | cons p l=>exact⟨p,l,rfl⟩
 have hs:∀ a∈p::l,a.length<=90000:=fun a ha=>by
  rw [← e,Tx.slash] at ha;exact az (sT ha) (by first|lia|omega)
 have hn:(p::l).length<=1000000:=by
  have:=PyProof.Rows.split_le (Tx.rest z) "/";rw [e] at this
  (first|lia|omega)
 have fin:=As (Q:=Q) e hs hn q;rw [← e] at fin;have go:∀ y:Str,y=Tx.rest z->metD .split y (.str "/") fun d=>(gNm 2).run d [.val (.str z),.val (.int (Tx.sg z)),.no,.no,.no,.no] fun s=>gJ.run (jA Q) s:=by
  rintro _ rfl;exact⟨_,rfl,ko (by first|lia|omega),by decide +kernel,fin⟩
 have es:decide (StrLaws.sliceText z none (some 1)=("-" : Str))=Tx.below z:=Tx.qs;refine⟨ko (by first|lia|omega),?_⟩;have key:∀ k:Bool,k=Tx.below z->CMulB 2 (if k=true then 1 else 0)/\iu.run (jA Q) [.val (.str z),.val (.int (1-2*(if k=true then 1 else 0))),.no,.no,.no,.no]:=by
  rintro k rfl;have e2:(1:Int)-2*(if Tx.below z=true then 1 else 0)=Tx.sg z:=by unfold Tx.sg;split <;> rfl
  refine⟨⟨2,2,by decide,by split <;> decide,by decide⟩,?_⟩;rw [e2];have e3:StrLaws.sliceText z (some (if decide (Tx.sg z<0)=true then 1 else 0)) none=Tx.rest z:=by
   unfold Tx.sg Tx.rest;cases Tx.below z
   ·exact Tx.yg
   ·rfl
  refine⟨ko (by first|lia|omega),_,rfl,?_⟩;have g2:=go _ rfl;rw [← e3] at g2;exact g2
 exact key _ es
end Dp
namespace Dp
open PySem L2
variable{P:Program}{w:World}{K:Frag}{mg:Str->Option Value}{base:Heap}
def j7(K:Frag)(n:Nat):Sp:=fun vs H Q _=>∃(d:DV) (x y:V),vs=[x,y]/\Rep K H d x/\Rep K H d y/\d.dp<n/\d.wd<=100000/\∀ H',Same H H'->Q (.bl true) H'
def d6(n:Nat):SpB:=.of 2 (α:=D) (fun d ds=>ds=[d,d]/\d.pl=true/\d.dp<n/\d.dv.wd<=100000) (fun _ r=>r = .bl true)
theorem rC{n k:Nat}{ps:List Str}(g:Def P w K mg base "_law_alike" k ps (j7 K n)):Def P w K mg base "_law_alike" k ps (mM K (d6 n).n (d6 n).run):=by
 obtain⟨f,fd,F,r⟩:=g.ex;refine⟨f,fd,F.imp (fun vs H Q E h=>?_),r⟩;obtain⟨hn,f,O,ds,fl,fO,al,lO,rp,d,⟨rfl,hp,hd,hw⟩,q⟩:=h;obtain⟨v,v',rfl,e1,e2⟩:=Rps.two rp;exact⟨d.dv,v,v',rfl,Rp.rep hp e1,Rp.rep hp e2,by rw [D.dv_dp];exact hd,hw,fun H' s=>q (.bl true) rfl _ H' ⟨s.sm,fl.same s⟩ rfl⟩
end Dp
namespace Dp
open PySem L2
open Tx (ft)
def fb:SpB:=.of 1 (α:=Unit) (fun _ ds=>ds=[.fl]) (fun _ d=>∃ c,d = .str (Tx.S1 c))
def ij:TSd:=(dSq (d8 [] (gNm 1) (dC (.str " !#$&'()*+,-./0123456789:;<=>?@ABCDEFGHIJKLMNOPQRSTUVWXYZ[]^_`abcdefghijklmnopqrstuvwxyz{|}~")))
 (dSq (d8 [] (gNm 1) (dW .Add (dW .Add (dW .Add (dQ 1) (dC (.str "\""))) (dC (.str "\\"))) (dC (.str "\n"))))
 (d5 [] (dIx (dQ 1) (dU dR (dP (dQ 0) (dP (dB bLen bLen.mono (dP (dQ 1) dS)) dS)))))))
theorem sL{z:Str}{Q:D->Prop}(hl:z.length=95)(q:∀ d,(∃ c,d = .str (Tx.S1 c))->Q d):(d5 [] (dIx (dQ 1) (dU dR (dP (dQ 0) (dP (dB bLen bLen.mono (dP (dQ 1) dS)) dS))))).run (jA Q) [.val .fl,.val (.str z)]:=by
 refine⟨ko (by first|lia|omega),rfl,(z.length:Int),⟨rfl,by first|lia|omega,qX (by first|lia|omega)⟩,?_⟩;rintro _ ⟨i,rfl,i0,i1⟩;obtain⟨i,rfl⟩:=aI i0;have hi:i<z.cps.toList.length:=by
  have e:z.cps.toList.length=z.length:=Tx.jz.symm
  (first|lia|omega)
 exact⟨ko (by first|lia|omega),_,kQ (aw hi),q _ ⟨_,rfl⟩⟩
theorem gw:Does 2 ij fb:=by
 rintro ds Q _ ⟨_,rfl,q⟩;exact⟨by decide +kernel,by decide +kernel,by decide +kernel,sL (by decide +kernel) q⟩
def ee:SpB:=.of 2 (α:=Nat) (fun k ds=>ds=[.fl,.int k]/\1<=k/\k<=40) (fun k d=>∃ n:Nat,d = .int n/\0<n/\n<10^k)
def g8:TSd:=(dSq (d8 [] (gNm 2) (dW .Add (dC (.int 1)) (dU dR (dP (dQ 0) (dP (dC (.int 9)) dS)))))
 (dSq (gX [] (gS (dW .Sub (dQ 1) (dC (.int 1)))) (gNm 3)
 (d8 [] (gNm 2) (dW .Add (dW .Mult (dQ 2) (dC (.int 10))) (dU dR (dP (dQ 0) (dP (dC (.int 10)) dS))))))
 (d5 [] (dQ 2))))
theorem qW{n k:Nat}(h:n<10^k)(hk:k<=64):Lt2 300 (n:Int):=ak (ak h (aZ (by decide) hk)) (by decide +kernel)
theorem gh:Does 4 g8 ee:=by
 rintro ds Q _ ⟨k,⟨rfl,k1,k2⟩,q⟩;dsimp only at q;refine⟨rfl,9,⟨rfl,by decide,qX (by decide)⟩,?_⟩;rintro _ ⟨i,rfl,i0,i1⟩;obtain⟨i,rfl⟩:=aI i0;have en:((k:Int)-1).toNat=k-1:=by first|lia|omega
 refine⟨by show -(2^62)<=(k:Int)-1;(first|lia|omega),by show (k:Int)-1<2^62;(first|lia|omega),?_⟩;show ∃ _,_;refine⟨fun j s=>∃(n:Nat) (o:SD),s=[.val .fl,.val (.int k),.val (.int n),o]/\0<n/\n<10^(j+1),⟨1+i,.no,rfl,by first|lia|omega,by first|lia|omega⟩,?_,?_⟩
 ·rintro j d _ hd ⟨n,o,rfl,n0,n1⟩;obtain⟨hj,rfl⟩:=pG hd;rw [en] at hj;have l1:=qW n1 (by first|lia|omega);refine⟨⟨300,4,l1,by decide,by decide⟩,rfl,10,⟨rfl,by decide,qX (by decide)⟩,?_⟩;rintro _ ⟨c,rfl,c0,c1⟩;obtain⟨c,rfl⟩:=aI c0;refine⟨n*10+c,_,rfl,by first|lia|omega,?_⟩;rw [de]
  (first|lia|omega)
 ·rintro _ ⟨n,o,rfl,n0,n1⟩;rw [j4,en,Nat.sub_add_cancel k1] at n1;exact q _ ⟨n,rfl,n0,n1⟩
def fq:SpB:=.of 1 (α:=Unit) (fun _ ds=>ds=[.fl]) (fun _ d=>∃ t u:Int,d=fD t u/\0<u/\Int.gcd t u=1/\t.natAbs<10^40/\u.natAbs<10^40)
def iK:TSd:=dSq (d8 [] (gNm 1) (dU ee (dP (dQ 0) (dP (dW .Add (dC (.int 1)) (dU dR (dP (dQ 0) (dP (dIx (eX (dP (dC (.int 1)) (dP (dC (.int 6)) (dP (dC (.int 40)) dS)))) (dU dR (dP (dQ 0) (dP (dC (.int 3)) dS)))) dS)))) dS))))
 (d5 [] (dU dX (dP (dW .Mult (dU ee (dP (dQ 0) (dP (dW .Add (dC (.int 1)) (dU dR (dP (dQ 0) (dP (dC (.int 40)) dS)))) dS))) (dIx (eX (dP (dC (.int 1)) (dP (dW .Sub (dC (.int 0)) (dC (.int 1))) dS))) (dU dR (dP (dQ 0) (dP (dC (.int 2)) dS))))) (dP (dQ 1) dS))))
def gK:TSd:=dSq (dIf [] (dZ (d7 .Eq (dU dR (dP (dQ 0) (dP (dC (.int 2)) dS))) (dC (.int 0))))
 (d5 [] (dU eE (dP (dQ 0) (dP (dC (.int 999)) dS))))
 d3)
 iK
theorem yD{a b c:Int}{i:Int}(h0:0<=i)(h1:i<3){Q:D->Prop}(qa:Q (.int a))(qb:Q (.int b))(qc:Q (.int c)):itD [.int a,.int b,.int c] i Q:=by
 rcases (by first|lia|omega:i=0\/i=1\/i=2) with rfl|rfl|rfl
 ·exact qa
 ·exact qb
 ·exact qc
theorem yE{a b:Int}{i:Int}(h0:0<=i)(h1:i<2){Q:D->Prop}(qa:Q (.int a))(qb:Q (.int b)):itD [.int a,.int b] i Q:=by
 rcases (by first|lia|omega:i=0\/i=1) with rfl|rfl
 ·exact qa
 ·exact qb
def iL:TSd:=(d5 [] (dU dX (dP (dW .Mult (dU ee (dP (dQ 0) (dP (dW .Add (dC (.int 1)) (dU dR (dP (dQ 0) (dP (dC (.int 40)) dS)))) dS))) (dIx (eX (dP (dC (.int 1)) (dP (dW .Sub (dC (.int 0)) (dC (.int 1))) dS))) (dU dR (dP (dQ 0) (dP (dC (.int 2)) dS))))) (dP (dQ 1) dS))))
theorem BO{Q:D->Prop}{b:Nat}(b0:0<b)(b1:b<10^40)(q:∀ d,(∃ t u:Int,d=fD t u/\0<u/\Int.gcd t u=1/\t.natAbs<10^40/\u.natAbs<10^40)->Q d):iL.run (jA Q) [.val .fl,.val (.int b)]:=by
 refine⟨rfl,40,⟨rfl,by decide,qX (by decide)⟩,?_⟩;rintro _ ⟨i,rfl,i0,i1⟩;obtain⟨i,rfl⟩:=aI i0;refine⟨rfl,1+i,⟨by show [D.fl,D.int (1+(i:Int))]=_;rw [Int.natCast_add];rfl,by first|lia|omega,by first|lia|omega⟩,?_⟩;rintro _ ⟨n,rfl,n0,n1⟩;have n1:n<10^40:=ak n1 (aZ (by decide) (by first|lia|omega));refine⟨xx,rfl,2,⟨rfl,by decide,qX (by decide)⟩,?_⟩;rintro _ ⟨j,rfl,j0,j1⟩;have lb:Lt2 9000000 (b:Int):=(qW b1 (by decide)).mono (by decide);have fin:∀ s:Int,s.natAbs=1->CMulB (n:Int) s/\[D.int ((n:Int)*s),D.int (b:Int)].length=dX.n/\dX.run [.int ((n:Int)*s),.int (b:Int)] (jA Q).rt:=fun s hs=>by
  refine⟨⟨300,2,qW n1 (by decide),by unfold Lt2;(first|lia|omega),by decide⟩,rfl,((n:Int)*s,(b:Int)),⟨rfl,by show (b:Int)≠0;(first|lia|omega),lb⟩,?_⟩;rintro _ rfl;have lw:=Fr.low (t:=(n:Int)*s) (b:=(b:Int)) (by first|lia|omega);have le:=Fr.qG (t:=(n:Int)*s) (b:=(b:Int)) (by first|lia|omega);refine q _ ⟨_,_,rfl,lw.1,lw.2.2,?_,?_⟩
  ·refine bv le.1 ?_;rw [bX,hs,Nat.mul_one,bg];exact n1
  ·exact bv le.2 b1
 exact yE j0 j1 (fin 1 rfl) (fin (0-1) rfl)
theorem BP{Q:D->Prop}(q:∀ d,(∃ t u:Int,d=fD t u/\0<u/\Int.gcd t u=1/\t.natAbs<10^40/\u.natAbs<10^40)->Q d):iK.run (jA Q) [.val .fl,.no]:=by
 refine⟨ko (n:=3) (by decide),rfl,3,⟨rfl,by decide,qX (by decide)⟩,?_⟩;rintro _ ⟨i,rfl,i0,i1⟩;have fin:∀ m:Int,1<=m->m<=40->[D.fl,D.int m].length=dR.n/\dR.run [.fl,.int m] fun d=>oAdd (.int 1) d fun d=>[D.fl,d].length=ee.n/\ee.run [.fl,d] fun d=>iL.run (jA Q) [.val .fl,.val d]:=fun m m0 m1=>by
  refine⟨rfl,m,⟨rfl,by first|lia|omega,qX (by first|lia|omega)⟩,?_⟩;rintro _ ⟨i,rfl,i0,i1⟩;obtain⟨i,rfl⟩:=aI i0;refine⟨rfl,1+i,⟨by show [D.fl,D.int (1+(i:Int))]=_;rw [Int.natCast_add];rfl,by first|lia|omega,by first|lia|omega⟩,?_⟩;rintro _ ⟨n,rfl,n0,n1⟩;exact BO n0 (ak n1 (aZ (by decide) (by first|lia|omega))) q
 exact yD i0 i1 (fin 1 (by decide) (by decide)) (fin 6 (by decide) (by decide)) (fin 40 (by decide) (by decide))
theorem fY:Does 2 gK fq:=by
 rintro ds Q _ ⟨_,rfl,q⟩;refine⟨rfl,2,⟨rfl,by decide,qX (by decide)⟩,?_⟩;rintro _ ⟨i,rfl,i0,i1⟩;refine oZ (p:=i=0) (fun c=>?_) (fun c=>BP q);refine⟨rfl,((999:Int),10),⟨rfl,by decide,by decide,by decide,by decide⟩,?_⟩;rintro _ ⟨r,t,u,rfl,u0,g,l1,l2,_⟩;refine q _ ⟨t,u,rfl,u0,g,ak l1 (by decide +kernel),ak l2 (by decide +kernel)⟩
section
variable(x8:X8)(fR:Addr)(tab:List (Addr×Nat×SpX))
def rq(z:Str):D:=match Tx.jD z with|some (t,u)=>fD t u|none=>.tup [.str "refused",.int 0]
theorem nI{z:Str}(h:Tx.jD z=none):rq z = .tup [.str "refused",.int 0]:=by unfold rq;rw [h]
theorem nH{z:Str}{t u:Int}(h:Tx.jD z=some (t,u)):rq z=fD t u:=by unfold rq;rw [h]
def eU:SpB:=.of 2 (α:=Str) (fun z ds=>ds=[.fn fR,.str z]/\z.length<=90000) (fun z d=>d=rq z)
def g9:TSd:=(dSq (d8 [] (gNm 2) (dC .non))
 (dSq (iH tab x8.all 2 3 0 (dP (dQ 1) dS))
 (dSq (dIf [] (eZ (eG (eM (gq x8.isBadText (dQ 2)))) (eG (eM (gq x8.isValueError (dQ 2)))))
 (d5 [] (fH (dP (dC (.str "other")) dS)))
 d3)
 (dSq (dIf [] (eM (gq x8.isNoNameNoRowTooGreatTwice (dQ 2)))
 (d5 [] (fH (dP (dC (.str "other")) dS)))
 d3)
 (d5 [] (fH (dP (dC (.str "refused")) (dP (hZ "at" x8.has_at (dQ 2)) dS))))))))
theorem gj{k:Nat}(ht:tab.lookup fR=some (k,dY x8)):Does 4 (g9 x8 tab) (eU fR):=by
 rintro ds Q _ ⟨z,⟨rfl,hz⟩,q⟩;have i0:=x8.i0;have hb:x8.isBadText x8.BadText=some true:=by unfold X8.isBadText;rw [i0];rfl
 have hv:x8.isValueError x8.BadText=some true:=by unfold X8.isValueError;rw [i0];rfl
 have ho:x8.isNoNameNoRowTooGreatTwice x8.BadText=some false:=by unfold X8.isNoNameNoRowTooGreatTwice;rw [i0];rfl
 have ha:x8.has_at x8.BadText=true:=by unfold X8.has_at;rw [i0];rfl
 refine⟨fR,k,dY x8,rfl,ht,rfl,z,⟨rfl,hz⟩,?_,?_⟩
 ·rintro _ ⟨t,u,e,rfl⟩;exact q _ (nH e).symm
 ·rintro _ ⟨e,rfl⟩;refine⟨⟨_,_,_,rfl,by unfold X8.all;rw [i0];rfl⟩,?_⟩;refine⟨_,_,_,_,rfl,hb,_,_,_,_,rfl,hv,_,_,_,_,rfl,ho,?_⟩;exact⟨_,_,rfl,ha,xx,q _ (nI e).symm⟩
def fu:SpB:=.of 1 (α:=Str) (fun z ds=>ds=[.str z]/\z.length<=90000) (fun _ d=>d = .bl true)
def gL:TSd:=(dSq (d8 [] (gNm 1) (dU eA (dP (dQ 0) dS)))
 (dSq (dIf [] (dZ (d7 .Is (dQ 1) (dC .non)))
 (d8 [] (gNm 1) (fH (dP (dC (.str "refused")) (dP (dC (.int 0)) dS))))
 d3)
 (d5 [] (dU (d6 3) (dP (dU (eU fR) (dP (dC (.fn fR)) (dP (dQ 0) dS))) (dP (dQ 1) dS))))))
theorem fZ:Does 2 (gL fR) fu:=by
 rintro ds Q _ ⟨z,⟨rfl,hz⟩,q⟩;have fin:(d5 [] (dU (d6 3) (dP (dU (eU fR) (dP (dC (.fn fR)) (dP (dQ 0) dS))) (dP (dQ 1) dS)))).run (jA Q) [.val (.str z),.val (rq z)]:=by
  refine⟨rfl,z,⟨rfl,hz⟩,?_⟩;rintro _ rfl;refine⟨rfl,rq z,⟨rfl,?_⟩,?_⟩
  ·cases e:Tx.jD z with
   | none=>rw [nI e];exact⟨rfl,by decide,by decide⟩
   | some p =>
    obtain⟨t,u⟩:=p;rw [nH e];exact⟨rfl,by show (0+1:Nat)<3;decide,by show (2:Nat)<=100000;decide⟩
  ·rintro _ rfl;exact q _ rfl
 refine⟨rfl,z,⟨rfl,hz⟩,?_⟩;rintro _ rfl;cases e:Tx.jD z with
 | none =>
  rw [nI e] at fin;rw [kK e];exact⟨xx,fin⟩
 | some p =>
  obtain⟨t,u⟩:=p;rw [nH e] at fin;rw [oF e];exact fin
end
end Dp
namespace Dp
open PySem L2
open Tx (ft)
theorem md(z:Str)(lo hi:Option Int):(StrLaws.sliceText z lo hi).length<=z.length:=by
 unfold StrLaws.sliceText;split
 ·exact aj _
 ·have h1:=bF (fun i=>z.cps[i]?) (Builtin.Str.strSliceIndices lo hi 1 z.length);have h2:=(open PySem.Spec PyProof.Rows in sliceIndices_le lo hi z.length);show (List.filterMap (fun i=>z.cps[i]?) (Builtin.Str.strSliceIndices lo hi 1 z.length)).toArray.size<=_;rw [af]
  (first|lia|omega)
def eI:SpB:=.of 2 (α:=Int×Int) (fun x ds=>ds=[.fl,fD x.1 x.2]/\0<x.2/\x.1.natAbs<10^40/\x.2.natAbs<10^40) (fun _ d=>∃ z:Str,d = .str z/\z.length<=2000)
def iM:TSd:=dSq (d8 [] (gNm 6) (eX (dP (dC (.str "")) (dP (dC (.str "-")) (dP (dC (.str "/")) (dP (dC (.str "-0")) (dP (dC (.str "0/1")) (dP (dC (.str "0/5")) (dP (dC (.str "1/0")) (dP (dC (.str "00")) (dP (dC (.str "+1")) (dP (dC (.str "--1")) (dP (dC (.str "1/-2")) (dP (dC (.str "-1/2/3")) (dP (dC (.str "1/")) (dP (dC (.str "/2")) (dP (dC (.str "1_0")) (dP (dC (.str "x")) (dP (dC (.str "1.0")) dS)))))))))))))))))))
 (d5 [] (dIx (dQ 6) (dU dR (dP (dQ 0) (dP (dC (.int 17)) dS)))))
def iN:TSd:=dSq (dIf [] (dZ (d7 .Eq (dQ 3) (dC (.int 6))))
 (d5 [] (dW .Add (dW .Add (dSl (dQ 2) dNo (eH (dC (.int 1)))) (dW .Mult (dC (.str "1")) (dW .Sub (dC (.int 41)) (dU dR (dP (dQ 0) (dP (dC (.int 3)) dS)))))) (dSl (dQ 2) (eH (dC (.int 1))) dNo)))
 d3)
 iM
def iO:TSd:=dSq (dIf [] (dZ (d7 .Eq (dQ 3) (dC (.int 5))))
 (d5 [] (dW .Add (dW .Add (dB bStr bStr.mono (dP (dIx (dQ 1) (dC (.int 0))) dS)) (dC (.str "/"))) (dB bStr bStr.mono (dP (dIx (dQ 1) (dC (.int 1))) dS))))
 d3)
 iN
def iP:TSd:=dSq (dIf [] (dZ (d7 .Eq (dQ 3) (dC (.int 4))))
 (d5 [] (dW .Add (dW .Add (dSl (dQ 2) dNo (eH (dQ 4))) (dC (.str "0"))) (dSl (dQ 2) (eH (dQ 4)) dNo)))
 d3)
 iO
def iQ:TSd:=dSq (dIf [] (dZ (d7 .Eq (dQ 3) (dC (.int 3))))
 (dSq (d8 [] (gNm 5) (dW .Add (dC (.int 1)) (dU dR (dP (dQ 0) (dP (dC (.int 9)) dS)))))
 (d5 [] (dW .Add (dW .Add (dB bStr bStr.mono (dP (dW .Mult (dIx (dQ 1) (dC (.int 0))) (dQ 5)) dS)) (dC (.str "/"))) (dB bStr bStr.mono (dP (dW .Mult (dIx (dQ 1) (dC (.int 1))) (dQ 5)) dS)))))
 d3)
 iP
def iR:TSd:=dSq (dIf [] (dZ (d7 .Lt (dQ 3) (dC (.int 3))))
 (d5 [] (dW .Add (dW .Add (dSl (dQ 2) dNo (eH (dQ 4))) (dIx (eX (dP (dU fb (dP (dQ 0) dS)) (dP (dC (.str "")) (dP (dU fb (dP (dQ 0) dS)) dS)))) (dQ 3))) (dSl (dQ 2) (eH (dW .Add (dQ 4) (dB bInt bInt.mono (dP (d7 .Gt (dQ 3) (dC (.int 0))) dS)))) dNo)))
 d3)
 iQ
def i7:TSd:=dSq (d8 [] (gNm 4) (dU dR (dP (dQ 0) (dP (dW .Add (dB bLen bLen.mono (dP (dQ 2) dS)) (dC (.int 1))) dS))))
 iR
def i8:TSd:=dSq (d8 [] (gNm 3) (dU dR (dP (dQ 0) (dP (dC (.int 9)) dS))))
 i7
def fK:TSd:=dSq (d8 [] (gNm 2) (dU d9 (dP (dQ 1) dS)))
 i8
section
variable{Q:D->Prop}{t u:Int}{z:Str}{f a:Nat}(hz:z.length<=90)(u0:0<u)(ht:t.natAbs<10^40)(hu:u.natAbs<10^40)(q:∀ d,(∃ z:Str,d = .str z/\z.length<=2000)->Q d)
include q in
theorem BI{x5:SD}:iM.run (jA Q) [.val .fl,.val (fD t u),.val (.str z),.val (.int f),.val (.int a),x5,.no]:=by
 refine⟨ko (n:=17) (by decide),rfl,17,⟨rfl,by decide,qX (by decide)⟩,?_⟩;rintro _ ⟨i,rfl,i0,i1⟩;obtain⟨i,rfl⟩:=aI i0;have hi:i<17:=by first|lia|omega
 have all:∀ x∈([(""), "-", "/", "-0", "0/1", "0/5", "1/0", "00", "+1", "--1", "1/-2", "-1/2/3", "1/", "/2", "1_0", "x", "1.0"]:List Str),x.length<=2000:=by decide +kernel
 have e:(([(""), "-", "/", "-0", "0/1", "0/5", "1/0", "00", "+1", "--1", "1/-2", "-1/2/3", "1/", "/2", "1_0", "x", "1.0"]:List Str).map D.str)[i]? = some (.str (([(""), "-", "/", "-0", "0/1", "0/5", "1/0", "00", "+1", "--1", "1/-2", "-1/2/3", "1/", "/2", "1_0", "x", "1.0"]:List Str)[i]'hi)):=by
  rw [aV,aw hi];rfl
 exact lN e (q _ ⟨_,rfl,all _ (List.getElem_mem hi)⟩)
theorem vm{a b c:Str}(h:a.length+b.length+c.length<=1900)(q:∀ d,(∃ z:Str,d = .str z/\z.length<=2000)->Q d):a.length+b.length<=sizeLine/\oBin .Add (.str (a++b)) (.str c) Q:=by
 have e:=Str.length_append a b;have e2:=Str.length_append (a++b) c;exact⟨ko (by first|lia|omega),ko (by first|lia|omega),q _ ⟨_,rfl,by first|lia|omega⟩⟩
include hz q in
theorem BJ{x5:SD}:iN.run (jA Q) [.val .fl,.val (fD t u),.val (.str z),.val (.int f),.val (.int a),x5,.no]:=by
 refine oZ (p:=(f:Int)=6) (fun c=>?_) (fun c=>BI q);have h1:=md z none (some 1);have h2:=md z (some 1) none;refine⟨ko (by first|lia|omega),rfl,3,⟨rfl,by decide,qX (by decide)⟩,?_⟩;rintro _ ⟨i,rfl,i0,i1⟩;have l1:("1" : Str).length=1:=by decide +kernel
 have hm:(Txt.mul "1" (41-i)).length<=1000:=by
  rcases (by first|lia|omega:i=0\/i=1\/i=2) with rfl|rfl|rfl <;> decide +kernel
 refine⟨by first|lia|omega,by show -2^63<=41-i;(first|lia|omega),by show 41-i<=1048576;(first|lia|omega),?_⟩;have f3:=vm (Q:=Q) (a:=StrLaws.sliceText z none (some 1)) (b:=Txt.mul "1" (41-i)) (c:=StrLaws.sliceText z (some 1) none) (by first|lia|omega) q;exact⟨f3.1,ko (by first|lia|omega),f3.2⟩
include ht hu hz q in
theorem BK{x5:SD}:iO.run (jA Q) [.val .fl,.val (fD t u),.val (.str z),.val (.int f),.val (.int a),x5,.no]:=by
 refine oZ (p:=(f:Int)=5) (fun c=>?_) (fun c=>BJ hz q);have l1:("/" : Str).length=1:=by decide +kernel
 have h1:=jY (k:=40) (by decide) ht;have h2:=jY (k:=40) (by decide) hu;have f3:=vm (Q:=Q) (a:=(toString t:Str)) (b := "/") (c:=(toString u:Str)) (by first|lia|omega) q;exact⟨kM ht (by decide),f3.1,kM hu (by decide),f3.2⟩
include ht hu hz q in
theorem BL{x5:SD}:iP.run (jA Q) [.val .fl,.val (fD t u),.val (.str z),.val (.int f),.val (.int a),x5,.no]:=by
 refine oZ (p:=(f:Int)=4) (fun c=>?_) (fun c=>BK hz ht hu q);have l1:("0" : Str).length=1:=by decide +kernel
 have h1:=md z none (some (a:Int));have h2:=md z (some (a:Int)) none;have f3:=vm (Q:=Q) (a:=StrLaws.sliceText z none (some (a:Int))) (b := "0") (c:=StrLaws.sliceText z (some (a:Int)) none) (by first|lia|omega) q;exact⟨ko (by first|lia|omega),f3.1,ko (by first|lia|omega),f3.2⟩
include ht hu hz q in
theorem BM{x5:SD}:iQ.run (jA Q) [.val .fl,.val (fD t u),.val (.str z),.val (.int f),.val (.int a),x5,.no]:=by
 refine oZ (p:=(f:Int)=3) (fun c=>?_) (fun c=>BL hz ht hu q);refine⟨rfl,9,⟨rfl,by decide,qX (by decide)⟩,?_⟩;rintro _ ⟨i,rfl,i0,i1⟩;have big:∀ x:Int,x.natAbs<10^40->(x*(1+i)).natAbs<10^42:=fun x hx=>by
  rw [bX];have:(1+i).natAbs<=9:=by first|lia|omega
  have h3:=Nat.mul_le_mul (cI hx) this;exact bv h3 (by decide +kernel)
 have mu:∀ x:Int,x.natAbs<10^40->CMulB x (1+i):=fun x hx=>⟨300,10,ak hx (by decide +kernel),qX (by first|lia|omega),by decide⟩;have l1:("/" : Str).length=1:=by decide +kernel
 have h1:=jY (k:=42) (by decide) (big t ht);have h2:=jY (k:=42) (by decide) (big u hu);have f3:=vm (Q:=Q) (a:=(toString (t*(1+i)):Str)) (b := "/") (c:=(toString (u*(1+i)):Str)) (by first|lia|omega) q;exact⟨mu t ht,kM (big t ht) (by decide),f3.1,mu u hu,kM (big u hu) (by decide),f3.2⟩
include ht hu hz q in
theorem BN(hf:f<9):iR.run (jA Q) [.val .fl,.val (fD t u),.val (.str z),.val (.int f),.val (.int a),.no,.no]:=by
 refine oZ (p:=(f:Int)<3) (fun c=>?_) (fun c=>BM hz ht hu q);have h1:=md z none (some (a:Int));refine⟨ko (by first|lia|omega),rfl,(),rfl,?_⟩;rintro _ ⟨c1,rfl⟩;refine⟨rfl,(),rfl,?_⟩;rintro _ ⟨c2,rfl⟩;have fin:∀(b:Str) (k:Int),b.length<=1->(StrLaws.sliceText z none (some (a:Int))).length+b.length<=sizeLine/\z.length<=sizeLine/\oBin .Add (.str (StrLaws.sliceText z none (some (a:Int))++b)) (.str (StrLaws.sliceText z (some k) none)) Q:=fun b k hb=>by
  have h2:=md z (some k) none;have f3:=vm (Q:=Q) (a:=StrLaws.sliceText z none (some (a:Int))) (b:=b) (c:=StrLaws.sliceText z (some k) none) (by first|lia|omega) q;exact⟨f3.1,ko (by first|lia|omega),f3.2⟩
 refine⟨ko (n:=3) (by decide),?_⟩;have s1:∀ c,(Tx.S1 c).length<=1:=fun c=>aj 1;rcases (by first|lia|omega:f=0\/f=1\/f=2) with rfl|rfl|rfl
 ·exact fin (Tx.S1 c1) _ (s1 _)
 ·exact fin ("" : Str) _ (by decide +kernel)
 ·exact fin (Tx.S1 c2) _ (s1 _)
end
theorem fk:Does 7 fK eI:=by
 rintro ds Q _ ⟨⟨t,u⟩,⟨rfl,u0,ht,hu⟩,q⟩;dsimp only at u0 ht hu;have up:∀{x:Int},x.natAbs<10^40->x.natAbs<10^64:=fun h=>bJ h (by decide +kernel);refine⟨rfl,(t,u),⟨rfl,u0,up ht,up hu⟩,?_⟩;rintro _ rfl;have hz:=q9 (k:=40) (by decide) ht hu;refine⟨rfl,9,⟨rfl,by decide,qX (by decide)⟩,?_⟩;rintro _ ⟨f,rfl,f0,f1⟩;obtain⟨f,rfl⟩:=aI f0;refine⟨ko (az hz (by decide)),rfl,((ft t u).length:Int)+1,⟨rfl,by first|lia|omega,qX (by first|lia|omega)⟩,?_⟩;rintro _ ⟨a,rfl,a0,a1⟩;obtain⟨a,rfl⟩:=aI a0;exact BN (az hz (by decide)) ht hu (fun d h=>q d h) (by first|lia|omega)
section
variable(x8:X8)
def iy:TSd:=(gX [] (gS (dC (.int 6))) (gNm 3)
 (dIf [] (eZ (eG (eM (dU fu (dP (dU eI (dP (dQ 1) (dP (dQ 4) dS))) dS)))) (dZ (d7 .NotEq (dU ((dY x8).at (fun _=>False)) (dP (dQ 5) dS)) (dQ 4))))
 (d5 [] (dC (.bl false)))
 d3))
def iZ:TSd:=dSq (dIf [] (eZ (eG (eM (dU (d6 3) (dP (dU eh (dP (dQ 4) dS)) (dP (dQ 5) dS))))) (eG (eM (dU (d6 3) (dP (dU ((dY x8).at (fun _=>False)) (dP (dQ 5) dS)) (dP (dQ 4) dS))))))
 (d5 [] (dC (.bl false)))
 d3)
 (iy x8)
def iS:TSd:=dSq (d8 [] (gNm 5) (dU d9 (dP (dQ 4) dS)))
 (iZ x8)
def i9:TSd:=dSq (gX [] (eW (dW .Add (dQ 2) (dSl (dQ 2) dNo (eH (dC (.int 1)))))) (gNm 4)
 (iS x8))
 (d5 [] (dC (.bl true)))
def ja:TSd:=dSq (d8 [] (gNm 2) (eN (gS (dC (.int 3))) [3] (gNm 3) iB (dU fq (dP (dQ 1) dS))))
 (i9 x8)
def G9(d:D):Prop:=∃ t u:Int,d=fD t u/\0<u/\Int.gcd t u=1/\t.natAbs<10^40/\u.natAbs<10^40
variable{x8:X8}{Q:D->Prop}{t u:Int}(u0:0<u)(g:Int.gcd t u=1)(ht:t.natAbs<10^40)(hu:u.natAbs<10^40)
include u0 g ht hu in
theorem xz{R:D->Prop}(r:R (fD t u)):((dY x8).at fun _=>False).run [.str (ft t u)] R:=by
 have e:=Tx.uI u0 g ht hu;have hz:=q9 (k:=40) (by decide) ht hu;refine⟨ft t u,⟨rfl,by first|lia|omega⟩,?_,?_⟩
 ·rintro _ ⟨t',u',e',rfl⟩;rw [e] at e';cases e';exact r
 ·rintro _ ⟨e',_⟩;rw [e] at e';cases e'
include u0 g ht hu in
theorem Au{a c o3:SD}{P B C:SS->Prop}(hp:∀ o3,P [a,.val .fl,c,o3,.val (fD t u),.val (.str (ft t u))]):(iy x8).run ⟨P,Q,B,C⟩ [a,.val .fl,c,o3,.val (fD t u),.val (.str (ft t u))]:=by
 refine⟨by decide,by decide,fun i s=>∃ o3,s=[a,.val .fl,c,o3,.val (fD t u),.val (.str (ft t u))],⟨_,rfl⟩,?_,?_⟩
 ·rintro i d _ hd ⟨o3,rfl⟩;obtain⟨hi,rfl⟩:=pG hd;refine⟨rfl,(t,u),⟨rfl,u0,ht,hu⟩,?_⟩;rintro _ ⟨z,rfl,hz⟩;refine⟨rfl,z,⟨rfl,by first|lia|omega⟩,?_⟩;rintro _ rfl;refine⟨rfl,xz u0 g ht hu ?_⟩;refine⟨rfl,rfl,by show (0:Nat)<=60;decide,fun k hk=>?_⟩;rw [hk.mpr rfl];exact⟨_,rfl⟩
 ·rintro _ ⟨o3,rfl⟩;exact hp _
include u0 g ht hu in
theorem BQ{a c o3 o5:SD}{P B C:SS->Prop}(hp:∀ o3 o5,P [a,.val .fl,c,o3,.val (fD t u),o5]):(iS x8).run ⟨P,Q,B,C⟩ [a,.val .fl,c,o3,.val (fD t u),o5]:=by
 have up:∀{x:Int},x.natAbs<10^40->x.natAbs<10^64:=fun h=>bJ h (by decide +kernel);refine⟨rfl,(t,u),⟨rfl,u0,up ht,up hu⟩,?_⟩;rintro _ rfl;refine⟨rfl,(t,u),⟨rfl,u0,up ht,up hu⟩,?_⟩;rintro _ rfl;refine⟨rfl,.str (ft t u),⟨rfl,rfl,by show (0:Nat)<3;decide,by show (0:Nat)<=100000;decide⟩,?_⟩;rintro _ rfl;refine⟨rfl,xz u0 g ht hu ?_⟩;refine⟨rfl,fD t u,⟨rfl,rfl,by show (0+1:Nat)<3;decide,by show (2:Nat)<=100000;decide⟩,?_⟩;rintro _ rfl;exact Au u0 g ht hu fun o=>hp o (.val (.str (ft t u)))
end
theorem vw{α:Type}{xs:List α}{lo hi:Option Int}{x:α}(h:x∈o8 xs lo hi):x∈xs:=List.mem_of_mem_drop (List.mem_of_mem_take h)
theorem vx{α:Type}{xs:List α}{lo hi:Option Int}:(o8 xs lo hi).length<=xs.length:=by
 unfold o8;rw [cb,ce]
 (first|lia|omega)
theorem um(x8:X8):(ja x8).run ⟨fun _=>False,fun d=>d = .bl true,fun _=>False,fun _=>False⟩ (.no :: .val .fl::List.replicate 4 .no):=by
 refine⟨by decide,by decide,ko (n:=3) (by decide),fun i ys=>ys.length=i/\∀ d∈ys,G9 d,⟨rfl,fun d h=>absurd h ah⟩,?_,?_⟩
 ·rintro i d ys hd _ ⟨hl,h⟩;refine⟨rfl,(),rfl,?_⟩;rintro y hy;exact⟨by rw [aF,hl];rfl,fun d hd=>by
   rcases bw.mp hd with z|z
   ·exact h d z
   ·rw [am.mp z];exact hy⟩
 ·rintro ys _ ⟨hl,h⟩;rw [j4] at hl;have hl:ys.length=3:=hl;have hm:∀ d∈ys++o8 ys none (some 1),G9 d:=fun d hd=>by
   rcases bw.mp hd with z|z
   ·exact h d z
   ·exact h d (vw z)
  have hc:=vx (xs:=ys) (lo:=none) (hi:=some 1);refine⟨ko (by first|lia|omega),fun i s=>∃ o3 o4 o5,s=[.no,.val .fl,.val (.lst ys),o3,o4,o5],⟨_,_,_,rfl⟩,?_,?_⟩
  ·rintro i d _ hd ⟨o3,o4,o5,rfl⟩;obtain⟨t,u,rfl,u0,g,ht,hu⟩:=hm d (aK hd);exact BQ u0 g ht hu fun o3 o5=>⟨_,_,_,rfl⟩
  ·rintro _ ⟨o3,o4,o5,rfl⟩;exact rfl
end Dp
set_option maxHeartbeats 4000000
namespace My
open PySem L2
def top(i:Nat):Stmt:=PySem.Challenge.pw_nestwright_k09_fractions_as_texts.main.body.getD i (.Pass ⟨0,0,0,0⟩)
abbrev kW:Stmt:=top 8
abbrev m7:Stmt:=top 9
abbrev lD:Stmt:=top 13
abbrev km:Stmt:=top 14
abbrev lE:Stmt:=top 15
abbrev ki:Stmt:=top 16
abbrev kZ:Stmt:=top 18
abbrev kY:Stmt:=top 19
abbrev jO:Stmt:=top 20
abbrev lG:Stmt:=top 21
abbrev kq:Stmt:=top 22
abbrev lF:Stmt:=top 23
abbrev jV:Stmt:=top 24
abbrev jS:Stmt:=top 25
abbrev kU:Stmt:=top 26
abbrev jR:Stmt:=top 27
abbrev m6:Stmt:=top 28
abbrev mH:Stmt:=top 29
abbrev mF:Stmt:=top 30
abbrev mG:Stmt:=top 31
abbrev kj:Stmt:=top 32
abbrev mE:Stmt:=top 33
abbrev xy:Stmt:=top 34
section
variable{P:Program}{w:World}{K:Frag}{mg:Str->Option Value}{base:Heap}
def Flow(H:Hp)(f:Addr):Prop:=∃(l:Addr) (ns:List Int) (i c a b:Int),H f=some (.lst [.ref l,.int i,.int c,.int a,.int b])/\H l=some (.lst (ns.map V.int))/\ns.length<=63/\0<=i/\i<=(ns.length:Int)/\0<=c/\0<=a/\a<2147483647
theorem AE{H:Hp}{f l:Addr}{ns:List Int}{x:Addr}{r:List V}(h1:H f=some (.lst (.ref x::r)))(h2:H l=some (.lst (ns.map V.int))):l≠f:=by
 refine Aq h2 h1 fun z=>?_;injection z with z;cases ns with
 | nil=>cases z
 | cons n ns=>rw [aY] at z;injection z with z1;cases z1
theorem mt{H:Hp}{f l:Addr}{ns:List Int}{i c a b i' c' a' b':Int}(h1:H f=some (.lst [.ref l,.int i,.int c,.int a,.int b]))(h2:H l=some (.lst (ns.map V.int))) :
  jr H f (.lst [.ref l,.int i',.int c',.int a',.int b']) f=some (.lst [.ref l,.int i',.int c',.int a',.int b'])/\jr H f (.lst [.ref l,.int i',.int c',.int a',.int b']) l=some (.lst (ns.map V.int))/\Sm f H (jr H f (.lst [.ref l,.int i',.int c',.int a',.int b'])):=by
 refine⟨ji,?_,fun b o n e=>?_,fun x r e=>?_⟩
 ·rw [jh (AE h1 h2)];exact h2
 ·rw [jh n];exact e
 ·rw [h1] at e;injection e with e;injection e with e;injection e with e _;rw [← e];exact⟨_,ji⟩
theorem xk{ns:List Int}{i:Int}(h0:0<=i)(h:i<(ns.length:Int)):∃ z,tV (ns.map V.int) i=some (V.int z):=by
 obtain⟨k,rfl⟩:=aI h0;exact⟨ns[k]'(by first|lia|omega),kQ (by rw [aV,aw (by first|lia|omega)];rfl)⟩
def lZ(K:Frag):Sp:=fun vs H Q _=>∃(a:Addr) (ns:List Int),vs=[.ref a]/\SqL K H a (ns.map V.int)/\ns.length<=63/\∀ f H',Same H H'->Flow H' f->H f=none->Q (.ref f) H'
def oC:Sp:=fun vs H Q _=>∃(f:Addr) (m:Int),vs=[.ref f,.int m]/\Flow H f/\0<m/\Lt2 9000 m/\∀ d H',0<=d->d<m->Flow H' f->Sm f H H'->Q (.int d) H'
theorem iz:FnScope ["_law_script"] ["_law_script"] (jf kZ):=⟨rfl,rfl,rfl,by decide +kernel,rfl,by decide +kernel,by decide +kernel⟩
theorem wy{f:Addr}{fd:FuncData}(F:Fun K "_law_flow" "_law_flow" kZ f fd)(B:Bl mg):FnOk P w K mg base pA 1 f fd ["_law_script"] (lZ K):=by
 refine F.ok iz (fun vs H Q E h=>?_) (fun cdv A outer s H vs Q E hr h=>?_)
 ·obtain⟨a,ns,rfl,_⟩:=h;rfl
 obtain⟨a,ns,rfl,hS,h63,q⟩:=h;have nd:=iz.nd;refine⟨_,(jC (@kr _ _ _ _ (@qM _ _ _ _ (@jg _ _ _ _ _ (@mh _ _ _ _ _ _ _ _ _ (u7 K) rfl B.list kP (@jg _ _ _ _ _ (pv 0) pa_nil (by rfl)) (by decide) (by decide) (by rfl) (by rfl)) (@jg _ _ _ _ _ jj (@jg _ _ _ _ _ jj (@jg _ _ _ _ _ jj (@jg _ _ _ _ _ jj pa_nil (by rfl)) (by rfl)) (by rfl)) (by rfl)) (by rfl))))),?_⟩;refine⟨_,rfl,a,_,rfl,.inl hS,fun l hl=>⟨(by show 5<=sizeLine;decide),fun p hp=>?_⟩⟩;have hpl:l≠p:=jo ji hp;refine q p _ ((Same.new hl _).trans (Same.new hp _)) ⟨l,ns,0,0,1,0,ji,?_,h63,by decide,by first|lia|omega,by decide,by decide,by decide⟩ ?_
 ·rw [jh hpl];exact ji
 ·rw [jh (Ne.symm hpl)] at hp;exact hp
theorem iA:FnScope ["_law_flow_here", "_law_many", "_law_cell", "_law_digit"] ["_law_flow_here", "_law_many"] (jf kY):=⟨rfl,rfl,rfl,by decide +kernel,rfl,by decide +kernel,by decide +kernel⟩
theorem wv{f0:Addr}{fd:FuncData}(F:Fun K "_law_pick" "_law_pick" kY f0 fd)(B:Bl mg):FnOk P w K mg base pA 1 f0 fd ["_law_flow_here", "_law_many"] oC:=by
 refine F.ok iA (fun vs H Q E h=>?_) (fun cdv A outer s H vs Q E hr h=>?_)
 ·obtain⟨a,ns,rfl,_⟩:=h;rfl
 obtain⟨f,m,rfl,hF,hm0,hm1,q⟩:=h;have nd:=iA.nd;refine⟨_,(lI (@m9 _ _ _ _ _ _ _ _ (PW.pt (uu (@j9 _ _ _ _ _ _ _ _ pV (@jH _ _ _ _ _ _ _ (qv K) (pv 0) jj (fun _ _=>rfl)) jj (ke _)) (rP (@j9 _ _ _ _ _ _ _ _ xH (@jH _ _ _ _ _ _ _ (qv K) (pv 0) jj (fun _ _=>rfl)) (@jt _ _ _ _ _ _ _ _ _ (tD K) rfl B.len my (@jg _ _ _ _ _ (@jH _ _ _ _ _ _ _ (qv K) (pv 0) jj (fun _ _=>rfl)) pa_nil (by rfl)) (by decide) (by decide) (by rfl) (by rfl)) (ke _))))) (jP (@lc _ _ 2 _ _ _ _ nd rfl (by first|exact Or.inl rfl|exact Or.inr rfl) (@jH _ _ _ _ _ _ _ (qv K) (@jH _ _ _ _ _ _ _ (qv K) (pv 0) jj (fun _ _=>rfl)) (@jH _ _ _ _ _ _ _ (qv K) (pv 0) jj (fun _ _=>rfl)) (fun _ _=>rfl)) (by rfl) (by first|exact .inl rfl|exact .inr rfl|assumption))
  (jP (@ku _ _ _ _ _ _ (@jB _ _ _ _ _ _ _ _ ka (@jH _ _ _ _ _ _ _ (qv K) (pv 0) jj (fun _ _=>rfl)) jj) (@ld _ _ _ _ _ _ _ (pv 0) jj jN (fun _=>rfl)) (by rfl) (by rfl) (by rfl))
  (jC (@m9 _ _ _ _ _ _ _ _ (@j9 _ _ _ _ _ _ _ _ xJ (pv 2) (@jB _ _ _ _ _ _ _ _ uQ jj jj) (ke _)) (jC (@ku _ _ _ _ _ _ (pv 2) (@ld _ _ _ _ _ _ _ (pv 0) jj jN (fun _=>rfl)) (by rfl) (by rfl) (by rfl))) (jC (@ku _ _ _ _ _ _ (@jB _ _ _ _ _ _ _ _ lj (@jB _ _ _ _ _ _ _ _ ka (@jB _ _ _ _ _ _ _ _ ka (@jB _ _ _ _ _ _ _ _ qP (@jH _ _ _ _ _ _ _ (qv K) (pv 0) jj (fun _ _=>rfl)) jj) (@jB _ _ _ _ _ _ _ _ lj (pv 2) jj)) jj) jj) (@ld _ _ _ _ _ _ _ (pv 0) jj jN (fun _=>rfl)) (by rfl) (by rfl) (by rfl))))))) pss_nil)
  (lI (@m9 _ _ _ _ _ _ _ _ (@j9 _ _ _ _ _ _ _ _ xI (@jH _ _ _ _ _ _ _ (qv K) (pv 0) jj (fun _ _=>rfl)) jj (ke _)) (jP (@lc _ _ 3 _ _ _ _ nd rfl (by first|exact Or.inl rfl|exact Or.inr rfl) (@jB _ _ _ _ _ _ _ _ lj (@jH _ _ _ _ _ _ _ (qv K) (pv 0) jj (fun _ _=>rfl)) (pv 1)) (by rfl) (by first|exact .inl rfl|exact .inr rfl|assumption))
  (jP (@ku _ _ _ _ _ _ (@jB _ _ _ _ _ _ _ _ (@pU _ _ hr) (@jH _ _ _ _ _ _ _ (qv K) (pv 0) jj (fun _ _=>rfl)) (pv 1)) (@ld _ _ _ _ _ _ _ (pv 0) jj jN (fun _=>rfl)) (by rfl) (by rfl) (by rfl))
  (jC (@kr _ _ _ _ (pv 3))))) pss_nil)
  (jP (@ku _ _ _ _ _ _ (@jB _ _ _ _ _ _ _ _ ka (@jH _ _ _ _ _ _ _ (qv K) (pv 0) jj (fun _ _=>rfl)) jj) (@ld _ _ _ _ _ _ _ (pv 0) jj jN (fun _=>rfl)) (by rfl) (by rfl) (by rfl))
  (jP (@ku _ _ _ _ _ _ (@jB _ _ _ _ _ _ _ _ lj (@jB _ _ _ _ _ _ _ _ ka (@jB _ _ _ _ _ _ _ _ ka (@jB _ _ _ _ _ _ _ _ qP (@jH _ _ _ _ _ _ _ (qv K) (pv 0) jj (fun _ _=>rfl)) jj) jj) (@jH _ _ _ _ _ _ _ (qv K) (pv 0) jj (fun _ _=>rfl))) jj) (@ld _ _ _ _ _ _ _ (pv 0) jj jN (fun _=>rfl)) (by rfl) (by rfl) (by rfl))
  (jC (@kr _ _ _ _ (@jB _ _ _ _ _ _ _ _ lj (@jB _ _ _ _ _ _ _ _ rX (@jB _ _ _ _ _ _ _ _ lj (@jB _ _ _ _ _ _ _ _ qP (@jB _ _ _ _ _ _ _ _ ka (@jB _ _ _ _ _ _ _ _ lj (@jH _ _ _ _ _ _ _ (qv K) (pv 0) jj (fun _ _=>rfl)) jj) jj) (@jB _ _ _ _ _ _ _ _ ka (@jB _ _ _ _ _ _ _ _ rX (@jH _ _ _ _ _ _ _ (qv K) (pv 0) jj (fun _ _=>rfl)) jj) jj)) jj) jj) (pv 1)))))))),?_⟩
 obtain⟨l,ns,i,c,a,b,h1,h2,h63,i0,i1,c0,a0,a1⟩:=hF;have hf:=SqL.of (K:=K) h1;refine⟨fun σ' H'=>(∃ o1 o2,σ'=[some (.ref f),some (.int m),o1,o2])/\Flow H' f/\Sm f H H',?_,?_⟩
 ·refine⟨_,rfl,f,_,2,_,rfl,rfl,hf,rfl,rfl,_,rfl,?_⟩;refine wP (fun cz=>?_) (fun cz=>?_)
  ·refine⟨_,rfl,f,_,1,_,rfl,rfl,hf,rfl,_,rfl,f,_,0,_,rfl,rfl,hf,rfl,l,_,rfl,.inl (SqL.of h2),_,_,rfl,rfl,_,rfl,?_⟩;refine wP (fun cl=>?_) (fun cl=>?_)
   ·have cl':i<(((ns.map V.int).length:Nat):Int):=of_decide_eq_true cl;rw [aH] at cl';obtain⟨z,hz⟩:=xk i0 cl';obtain⟨g1,g2,g3⟩:=mt (i':=i+1) (c':=c) (a':=a) (b':=b) h1 h2;have gf:=SqL.of (K:=K) g1;refine⟨_,rfl,f,_,0,_,rfl,rfl,hf,rfl,_,rfl,f,_,1,_,rfl,rfl,hf,rfl,l,_,i,_,rfl,rfl,SqL.of h2,hz,?_⟩;refine⟨_,rfl,f,_,1,_,rfl,rfl,hf,rfl,_,_,rfl,rfl,_,rfl,f,_,1,1,rfl,rfl,h1,rfl,?_⟩;refine⟨_,rfl,_,_,rfl,rfl,⟨by decide,by decide,by decide⟩,_,_,rfl,rfl,_,rfl,?_⟩;refine wP (fun cg=>?_) (fun cg=>?_)
    ·have cg':(10:Int)^(18:Int).toNat<=z:=of_decide_eq_true cg;have cg2:(0:Int)<=z:=Int.le_trans (by decide) cg';obtain⟨k1,k2,k3⟩:=mt (i':=i+1) (c':=z) (a':=a) (b':=b) g1 g2;refine⟨_,rfl,_,rfl,f,_,2,2,rfl,rfl,g1,rfl,?_⟩;exact⟨⟨_,_,rfl⟩,⟨l,ns,i+1,z,a,b,k1,k2,h63,by first|lia|omega,by first|lia|omega,cg2,a0,a1⟩,g3.trans k3⟩
    ·obtain⟨k1,k2,k3⟩:=mt (i':=i+1) (c':=c) (a':=(a*40013+z%1000003+1)%2147483647) (b':=b) g1 g2;refine⟨_,rfl,f,_,3,_,rfl,rfl,gf,rfl,_,_,rfl,rfl,.inr ⟨by decide,by decide⟩,_,rfl,_,_,rfl,rfl,(by show (0:Int)<_;decide),_,_,rfl,rfl,_,_,rfl,rfl,_,_,rfl,rfl,(by show (0:Int)<_;decide),_,rfl,f,_,3,3,rfl,rfl,g1,rfl,?_⟩;exact⟨⟨_,_,rfl⟩,⟨l,ns,i+1,c,_,b,k1,k2,h63,by first|lia|omega,by first|lia|omega,c0,cx _ (by decide),bY _ (by decide)⟩,g3.trans k3⟩
   ·exact⟨⟨_,_,rfl⟩,⟨l,ns,i,c,a,b,h1,h2,h63,i0,i1,c0,a0,a1⟩,Sm.refl H⟩
  ·exact y2 ⟨⟨_,_,rfl⟩,⟨l,ns,i,c,a,b,h1,h2,h63,i0,i1,c0,a0,a1⟩,Sm.refl H⟩
 ·rintro _ H1 ⟨⟨o1,o2,rfl⟩,hF1,sm1⟩;clear hf h1 h2 i0 i1 c0 a0 a1 h63;obtain⟨l,ns,i,c,a,b,h1,h2,h63,i0,i1,c0,a0,a1⟩:=hF1;have hf:=SqL.of (K:=K) h1;refine⟨fun σ' H'=>σ'=[some (.ref f),some (.int m),o1,o2]/\H'=H1,?_,?_⟩
  ·refine⟨_,rfl,f,_,2,_,rfl,rfl,hf,rfl,_,_,rfl,rfl,_,rfl,?_⟩;refine wP (fun cz=>?_) (fun cz=>?_)
   ·obtain⟨k1,k2,k3⟩:=mt (i':=i) (c':=c.fdiv m) (a':=a) (b':=b) h1 h2;refine⟨_,rfl,f,_,2,_,rfl,rfl,hf,rfl,_,rfl,_,_,rfl,rfl,hm0,?_⟩;have fe:c.fdiv m=c / m:=cY _ (by first|lia|omega:(0:Int)<=m);refine⟨_,rfl,f,_,2,_,rfl,rfl,hf,rfl,_,rfl,_,_,rfl,rfl,⟨by first|lia|omega,9000,hm1,by decide⟩,_,rfl,f,_,2,2,rfl,rfl,h1,rfl,?_⟩;refine⟨_,rfl,q _ _ (cx _ (by first|lia|omega)) (bY _ hm0) ⟨l,ns,i,c.fdiv m,a,b,k1,k2,h63,i0,i1,by rw [fe];exact Int.ediv_nonneg c0 (by first|lia|omega),a0,a1⟩ (sm1.trans k3)⟩
   ·exact⟨rfl,rfl⟩
  ·rintro _ _ ⟨rfl,rfl⟩;obtain⟨g1,g2,g3⟩:=mt (i':=i) (c':=c) (a':=a) (b':=b+1) h1 h2;have gf:=SqL.of (K:=K) g1;refine⟨_,rfl,f,_,4,_,rfl,rfl,hf,rfl,_,_,rfl,rfl,_,rfl,f,_,4,4,rfl,rfl,h1,rfl,?_⟩;obtain⟨k1,k2,k3⟩:=mt (i':=i) (c':=c) (a':=(a*48271+12820163+(b+1))%2147483647) (b':=b+1) g1 g2;have kf:=SqL.of (K:=K) k1;refine⟨_,rfl,f,_,3,_,rfl,rfl,gf,rfl,_,_,rfl,rfl,.inr ⟨by decide,by decide⟩,_,_,rfl,rfl,_,rfl,f,_,4,_,rfl,rfl,gf,rfl,_,_,rfl,rfl,_,_,rfl,rfl,(by show (0:Int)<_;decide),_,rfl,f,_,3,3,rfl,rfl,g1,rfl,?_⟩;have n0:=cx (a*48271+12820163+(b+1)) (show (2147483647:Int)≠0 by decide);have n1:=bY (a*48271+12820163+(b+1)) (show (0:Int)<2147483647 by decide);refine⟨_,rfl,f,_,3,_,rfl,rfl,kf,rfl,_,_,rfl,rfl,(by show (0:Int)<_;decide),_,_,rfl,rfl,_,rfl,f,_,3,_,rfl,rfl,kf,rfl,_,_,rfl,rfl,⟨by decide,by decide⟩,_,_,rfl,rfl,_,_,rfl,rfl,.inl ⟨by first|lia|omega,by first|lia|omega⟩,_,_,rfl,rfl,(by show (0:Int)<_;decide),_,_,rfl,rfl,⟨by decide,by decide⟩,_,rfl,_,_,rfl,rfl,hm0,?_⟩;exact q _ _ (cx _ (by first|lia|omega)) (bY _ hm0) ⟨l,ns,i,c,_,b+1,k1,k2,h63,i0,i1,c0,n0,n1⟩ ((sm1.trans g3).trans k3)
def j7(K:Frag)(n:Nat):Sp:=fun vs H Q _=>∃(d:DV) (x y:V),vs=[x,y]/\Rep K H d x/\Rep K H d y/\d.dp<n/\d.wd<=100000/\∀ H',Same H H'->Q (.bl true) H'
theorem fG:FnScope ["_law_found", "_law_due", "_law_k"] ["_law_found", "_law_due"] (jf jO):=⟨rfl,rfl,rfl,by decide +kernel,rfl,by decide +kernel,by decide +kernel⟩
theorem rA{n:Nat}{f0:Addr}{fd:FuncData}(F:Fun K "_law_alike" "_law_alike" jO f0 fd)(B:Bl mg)(g_law_alike:Def P w K mg base "_law_alike" n ["_law_found", "_law_due"] (j7 K n)):FnOk P w K mg base pA (n+1) f0 fd ["_law_found", "_law_due"] (j7 K (n+1)):=by
 refine F.ok fG (fun vs H Q E h=>?_) (fun cdv A outer s H vs Q E hr h=>?_)
 ·obtain⟨d,x,y,rfl,_⟩:=h;rfl
 obtain⟨d,x,y,rfl,hx,hy,hd,hw,q⟩:=h;have nd:=fG.nd;refine⟨_,(lI (@m9 _ _ _ _ _ _ _ _ (CQ K (@jt _ _ _ _ _ _ _ _ _ (BU K) rfl B.isinstance jq (@jg _ _ _ _ _ (pv 1) (@jg _ _ _ _ _ (@qK _ _ _ _ _ (@jg _ _ _ _ _ (@jM _ _ (.ty "list") _ _ rfl B.list kP rfl (by decide) (by decide)) (@jg _ _ _ _ _ (@jM _ _ (.ty "tuple") _ _ rfl B.tuple lU rfl (by decide) (by decide)) pa_nil (by rfl)) (by rfl))) pa_nil (by rfl)) (by rfl)) (by decide) (by decide) (by rfl) (by rfl)) (fun _=>rfl)) (lI (@m9 _ _ _ _ _ _ _ _ (@j9 _ _ _ _ _ _ _ _ uR (@jt _ _ _ _ _ _ _ _ _ (y8 K) rfl B.isinstance jq (@jg _ _ _ _ _ (pv 0) (@jg _ _ _ _ _ (@jM _ _ (.ty "list") _ _ rfl B.list kP rfl (by decide) (by decide)) pa_nil (by rfl)) (by rfl)) (by decide) (by decide) (by rfl) (by rfl)) (@jt _ _ _ _ _ _ _ _ _ (y8 K) rfl B.isinstance jq (@jg _ _ _ _ _ (pv 1) (@jg _ _ _ _ _ (@jM _ _ (.ty "list") _ _ rfl B.list kP rfl (by decide) (by decide)) pa_nil (by rfl)) (by rfl)) (by decide) (by decide) (by rfl) (by rfl)) (ke _)) (jC (@kr _ _ _ _ uF)) pss_nil)
  (lI (@m9 _ _ _ _ _ _ _ _ (@j9 _ _ _ _ _ _ _ _ uR (@jt _ _ _ _ _ _ _ _ _ (y8 K) rfl B.isinstance jq (@jg _ _ _ _ _ (pv 0) (@jg _ _ _ _ _ (@jM _ _ (.ty "tuple") _ _ rfl B.tuple lU rfl (by decide) (by decide)) pa_nil (by rfl)) (by rfl)) (by decide) (by decide) (by rfl) (by rfl)) (@jt _ _ _ _ _ _ _ _ _ (y8 K) rfl B.isinstance jq (@jg _ _ _ _ _ (pv 1) (@jg _ _ _ _ _ (@jM _ _ (.ty "tuple") _ _ rfl B.tuple lU rfl (by decide) (by decide)) pa_nil (by rfl)) (by rfl)) (by decide) (by decide) (by rfl) (by rfl)) (ke _)) (jC (@kr _ _ _ _ uF)) pss_nil)
  (jC (@kr _ _ _ _ (qO (@mS _ _ _ _ _ _ _ _ pV (@jt _ _ _ _ _ _ _ _ _ (tD K) rfl B.len my (@jg _ _ _ _ _ (pv 0) pa_nil (by rfl)) (by decide) (by decide) (by rfl) (by rfl)) (@jt _ _ _ _ _ _ _ _ _ (tD K) rfl B.len my (@jg _ _ _ _ _ (pv 1) pa_nil (by rfl)) (by decide) (by decide) (by rfl) (by rfl)) (ke _)) (@qL _ _ _ _ _ (@jt _ _ _ _ _ _ _ _ _ (AO K) rfl B.all vJ (@jg _ _ _ _ _ (@rR _ _ _ _ _ _ _ _ _ _ _ _ rfl (show CompS ["_law_found", "_law_due", "_law_k"] (jf jO) _ [2] from by exact⟨rfl,by decide +kernel,by decide +kernel,by decide +kernel,by decide +kernel⟩) (nW rfl B.range (@jg _ _ _ _ _ (@jt _ _ _ _ _ _ _ _ _ (tD K) rfl B.len my (@jg _ _ _ _ _ (pv 1) pa_nil (by rfl)) (by decide) (by decide) (by rfl) (by rfl)) pa_nil (by rfl))) (fun _ _ _ _ _=>(@oG _ _ 2 _ nd rfl (by first|exact Or.inl rfl|exact Or.inr rfl) (by first|exact .inl rfl|exact .inr rfl|assumption))) (fun _ _ _ _ _=>pts_nil) (fun _ _ _ _ _=>(@oJ _ _ _ _ _ _ _ _ _ _ _ g_law_alike hr (@jg _ _ _ _ _ (@jH _ _ _ _ _ _ _ (Co K) (pv 0) (pv 2) (fun _ _=>rfl)) (@jg _ _ _ _ _ (@jH _ _ _ _ _ _ _ (Co K) (pv 1) (pv 2) (fun _ _=>rfl)) pa_nil (by rfl)) (by rfl)) (by first|decide|omega|exact aj _) (by rfl) (by decide) (by rfl) (by rfl))) (by intro _;rfl)) pa_nil (by rfl)) (by decide) (by decide) (by rfl) (by rfl)))))))) pss_nil)
  (jC (@kr _ _ _ _ (qO (@mS _ _ _ _ _ _ _ _ pV (@jt _ _ _ _ _ _ _ _ _ (y8 K) rfl B.isinstance jq (@jg _ _ _ _ _ (pv 0) (@jg _ _ _ _ _ (@jM _ _ (.ty "bool") _ _ rfl B.bool ph rfl (by decide) (by decide)) pa_nil (by rfl)) (by rfl)) (by decide) (by decide) (by rfl) (by rfl)) (@jt _ _ _ _ _ _ _ _ _ (y8 K) rfl B.isinstance jq (@jg _ _ _ _ _ (pv 1) (@jg _ _ _ _ _ (@jM _ _ (.ty "bool") _ _ rfl B.bool ph rfl (by decide) (by decide)) pa_nil (by rfl)) (by rfl)) (by decide) (by decide) (by rfl) (by rfl)) (ke _)) (@qL _ _ _ _ _ (@mS _ _ _ _ _ _ _ _ pV (pv 0) (pv 1) (ke _))))))),?_⟩
 rcases sN hx hy with⟨rfl,t,bb,ty,hs,k1,k2,sc⟩|⟨tt,a,a',xs,ys,ds,rfl,rfl,q1,q2,r1,r2,e1,e2,e3⟩
 ·refine⟨fun σ H'=>σ=[some x,some x,none]/\Same H H',?_,?_⟩
  ·refine⟨_,rfl,(by show 2<=sizeLine;decide),fun p hp=>?_⟩;refine⟨x,p,t,false,["list", "tuple"],rfl,ty _,hs,ji,k1,_,rfl,?_⟩;exact y2 ⟨rfl,Same.new hp _⟩
  ·rintro _ H1 ⟨rfl,s1⟩;refine⟨_,rfl,_,_,_,_,rfl,ty _,k2,_,rfl,_,_,_,_,rfl,ty _,k2,rfl,_,rfl,?_⟩;rw [decide_eq_true rfl];refine y1 ?_;refine⟨_,rfl,_,rfl,sc,?_⟩;rw [decide_eq_true rfl];exact q H1 s1
 ·have l1:=r1.length;have l2:=r2.length;obtain⟨k0,⟨b1,k1⟩,⟨b2,k2⟩⟩:=q1.kit;refine⟨fun σ H'=>False,?_,fun _ _ z=>z.elim⟩;refine⟨_,rfl,(by show 2<=sizeLine;decide),fun p hp=>?_⟩;have s1:=Same.new hp (.tup [.ty "list",.ty "tuple"]);refine⟨_,p,.type tt,true,["list", "tuple"],rfl,(q2.same s1).ty,nofun,ji,k0,_,rfl,?_⟩;refine y1 ?_;have e1':=q1.same s1;have e2':=q2.same s1;refine⟨fun σ H'=>σ=[some (.ref a),some (.ref a'),none]/\H'=jr H p (.tup [.ty "list",.ty "tuple"]),?_,?_⟩
  ·refine⟨_,rfl,_,_,_,_,rfl,e1'.ty,k1,_,rfl,_,_,_,_,rfl,e2'.ty,k1,rfl,_,rfl,?_⟩;exact xN rfl ⟨rfl,rfl⟩
  ·rintro _ _ ⟨rfl,rfl⟩;refine⟨fun σ H'=>σ=[some (.ref a),some (.ref a'),none]/\H'=jr H p (.tup [.ty "list",.ty "tuple"]),?_,?_⟩
   ·refine⟨_,rfl,_,_,_,_,rfl,e1'.ty,k2,_,rfl,_,_,_,_,rfl,e2'.ty,k2,rfl,_,rfl,?_⟩;exact xN rfl ⟨rfl,rfl⟩
   ·rintro _ _ ⟨rfl,rfl⟩;refine⟨_,rfl,a,xs,rfl,e1'.len,_,rfl,a',ys,rfl,e2'.len,rfl,_,rfl,?_⟩;rw [decide_eq_true (show V.int (xs.length:Int)=V.int (ys.length:Int) by rw [← l1,← l2])];refine y1 ?_;refine⟨_,rfl,a',ys,rfl,e2'.len,_,rfl,by first|lia|omega,by first|lia|omega,?_⟩;rw [aX];refine rg (n:=ys.length) (by rw [sizeLine_eq];(first|lia|omega)) (fun i τ zs H'=>(∃ o,τ=[some (.ref a),some (.ref a'),o])/\Same H H'/\zs=(List.replicate i true).map V.bl) ⟨⟨none,rfl⟩,s1,rfl⟩ ?_ ?_
    ·rintro i _ _ H1 hi hl ⟨⟨o,rfl⟩,s2,rfl⟩;obtain⟨v1,hv1⟩:∃ v,xs[i]? = some v:=⟨xs[i]'(by first|lia|omega),aw _⟩;obtain⟨v2,hv2⟩:∃ v,ys[i]? = some v:=⟨ys[i]'hi,aw _⟩;obtain⟨d1,hd1,rp1⟩:=(r1.same s2).get hv1;obtain⟨d2,hd2,rp2⟩:=(r2.same s2).get hv2;rw [hd1] at hd2;cases hd2;have wm:=rJ (aK hd1);have ei:(0:Int)+(i:Int)=(i:Int):=Int.zero_add _;refine⟨_,rfl,_,rfl,(q1.same s2).ix (by rw [ei];exact kQ hv1) ?_⟩;refine⟨_,rfl,_,rfl,(q2.same s2).ix (by rw [ei];exact kQ hv2) ?_⟩;refine⟨d1,v1,v2,rfl,rp1,rp2,by first|lia|omega,by first|lia|omega,fun H2 s3=>?_⟩;refine CT hi hl ⟨⟨_,rfl⟩,s2.trans s3,?_⟩;rw [List.replicate_succ',bG];rfl
    ·rintro _ _ H1 D hl ⟨⟨o,rfl⟩,s2,rfl⟩ hD;refine⟨D,_,rfl,SqL.of ji,?_⟩;have:(List.replicate ys.length true).all id=true:=by simp
     rw [this];exact q _ (s2.trans (Same.new hD _))
theorem rB{f0:Addr}{fd:FuncData}:FnOk P w K mg base pA 0 f0 fd ["_law_found", "_law_due"] (j7 K 0):=by
 have no:∀ vs H Q E,¬ j7 K 0 vs H Q E:=fun vs H Q E h=>by
  obtain⟨d,x,y,_,_,_,h1,_⟩:=h
  (first|lia|omega)
 exact⟨fun vs H Q E h=>absurd h (no vs H Q E),fun A outer s H args us vs Q E _ _ _ _ h=>absurd h (no vs H Q E)⟩
theorem lJ{f0:Addr}{fd:FuncData}(F:Fun K "_law_alike" "_law_alike" jO f0 fd)(B:Bl mg)(m:mg "_law_alike" = some (.ref f0))(b:Binds K fd ["_law_found", "_law_due"] []):∀ n,FnOk P w K mg base pA n f0 fd ["_law_found", "_law_due"] (j7 K n)
 | 0=>rB
 | n+1=>rA F B (.of F m b (lJ F B m b n))
def CW:Stmt->Stmt
 | .ClassDef _ _ _ (b::_) .. => b
 | s=>s
abbrev tL:Stmt:=CW (top 2)
theorem gk:FnScope ["one", "other"] ["one", "other"] (jf kW):=Ds.sc (by kernel_rfl) rfl rfl rfl
theorem hU:FnScope ["top", "bottom", "part"] ["top", "bottom"] (jf m7):=Ds.sc (by kernel_rfl) rfl rfl rfl
theorem gy:FnScope ["number", "step", "pieces", "low"] ["number"] (jf lD):=Ds.sc (by kernel_rfl) rfl rfl rfl
theorem fL:FnScope ["r", "top", "bottom", "text"] ["r"] (jf km):=Ds.sc (by kernel_rfl) rfl rfl rfl
theorem gz:FnScope ["text", "sign"] ["text"] (jf lE):=Ds.sc (by kernel_rfl) rfl rfl rfl
theorem fM:FnScope ["text", "below", "top", "slash", "bottom", "under", "r"] ["text"] (jf ki):=Ds.sc (by kernel_rfl) rfl rfl rfl
theorem gA:FnScope ["_law_a", "_law_b"] ["_law_a", "_law_b"] (jf lG):=Ds.sc (by kernel_rfl) rfl rfl rfl
theorem gb:FnScope ["_law_top", "_law_bottom", "_law_part"] ["_law_top", "_law_bottom"] (jf kq):=Ds.sc (by kernel_rfl) rfl rfl rfl
theorem gB:FnScope ["_law_flow_here", "_law_most"] ["_law_flow_here", "_law_most"] (jf lF):=Ds.sc (by kernel_rfl) rfl rfl rfl
theorem fm:FnScope ["_law_flow_here", "_law_most"] ["_law_flow_here", "_law_most"] (jf jV):=Ds.sc (by kernel_rfl) rfl rfl rfl
theorem fc:FnScope ["_law_r"] ["_law_r"] (jf jS):=Ds.sc (by kernel_rfl) rfl rfl rfl
theorem gm:FnScope ["_law_text", "_law_sign_here"] ["_law_text"] (jf kU):=Ds.sc (by kernel_rfl) rfl rfl rfl
theorem fh:FnScope ["_law_text", "_law_sign_here", "_law_pieces", "_law_one", "_law_top", "_law_bottom"] ["_law_text"] (jf jR):=Ds.sc (by kernel_rfl) rfl rfl rfl
theorem hV:FnScope ["_law_flow_here", "_law_signs"] ["_law_flow_here"] (jf m6):=Ds.sc (by kernel_rfl) rfl rfl rfl
theorem gM:FnScope ["_law_way_of", "_law_text", "_law_caught", "e"] ["_law_way_of", "_law_text"] (jf mH):=Ds.sc (by kernel_rfl) rfl rfl rfl
theorem gN:FnScope ["_law_flow_here", "_law_figures_here", "_law_found", "_law_k"] ["_law_flow_here", "_law_figures_here"] (jf mF):=Ds.sc (by kernel_rfl) rfl rfl rfl
theorem gO:FnScope ["_law_flow_here", "_law_bottom"] ["_law_flow_here"] (jf mG):=Ds.sc (by kernel_rfl) rfl rfl rfl
theorem fN:FnScope ["_law_flow_here", "_law_r", "_law_text", "_law_form", "_law_at", "_law_by", "_law_some"] ["_law_flow_here", "_law_r"] (jf kj):=Ds.sc (by kernel_rfl) rfl rfl rfl
theorem gP:FnScope ["_law_text", "_law_due"] ["_law_text"] (jf mE):=Ds.sc (by kernel_rfl) rfl rfl rfl
theorem jb:FnScope ["_law_script", "_law_flow_here", "_law_some", "_law_k", "_law_r", "_law_text"] ["_law_script"] (jf xy):=Ds.sc (by kernel_rfl) rfl rfl rfl
end
theorem AM:bootBuiltins "ValueError" = some (.type "ValueError"):=by decide +kernel
theorem zy{l:PySem.W.OpenLaw}{w:World}{K:Frag}{h:Heap}{mg:Str->Option Value}{fa:Addr}{f1 f2 f3 f4 f5 f6 f7 f8 f9 f10 f11 f12 f13 f14 f15 f16 f17 f18 f19 f20 f21 f22 f23:Addr}(X:K.In h)(G:h.Ns mainGlobals mg)(hfa:mg "law" = some (.ref fa))
  (h1:Ds.Sl K f1 "common_part" kW)
  (h2:Ds.Sl K f2 "fraction" m7)
  (h3:Ds.Sl K f3 "whole_text" lD)
  (h4:Ds.Sl K f4 "fraction_text" km)
  (h5:Ds.Sl K f5 "read_whole" lE)
  (h6:Ds.Sl K f6 "read_fraction" ki)
  (h7:Ds.Sl K f7 "_law_flow" kZ)
  (h8:Ds.Sl K f8 "_law_pick" kY)
  (h9:Ds.Sl K f9 "_law_alike" jO)
  (h10:Ds.Sl K f10 "_law_common" lG)
  (h11:Ds.Sl K f11 "_law_fraction" kq)
  (h12:Ds.Sl K f12 "_law_number" lF)
  (h13:Ds.Sl K f13 "_law_any_fraction" jV)
  (h14:Ds.Sl K f14 "_law_fraction_text" jS)
  (h15:Ds.Sl K f15 "_law_figures" kU)
  (h16:Ds.Sl K f16 "_law_read_fraction" jR)
  (h17:Ds.Sl K f17 "_law_sign" m6)
  (h18:Ds.Sl K f18 "_law_asked" mH)
  (h19:Ds.Sl K f19 "_law_great" mF)
  (h20:Ds.Sl K f20 "_law_drawn" mG)
  (h21:Ds.Sl K f21 "_law_otherwise" kj)
  (h22:Ds.Sl K f22 "_law_right" mE)
  (h23:Ds.Sl K f23 "law" xy)
  (z_len:PySem.W.nsIn K mainGlobals "len" = some none)
  (z_range:PySem.W.nsIn K mainGlobals "range" = some none)
  (z_all:PySem.W.nsIn K mainGlobals "all" = some none)
  (z_any:PySem.W.nsIn K mainGlobals "any" = some none)
  (z_abs:PySem.W.nsIn K mainGlobals "abs" = some none)
  (z_int:PySem.W.nsIn K mainGlobals "int" = some none)
  (z_bool:PySem.W.nsIn K mainGlobals "bool" = some none)
  (z_str:PySem.W.nsIn K mainGlobals "str" = some none)
  (z_list:PySem.W.nsIn K mainGlobals "list" = some none)
  (z_tuple:PySem.W.nsIn K mainGlobals "tuple" = some none)
  (z_dict:PySem.W.nsIn K mainGlobals "dict" = some none)
  (z_isinstance:PySem.W.nsIn K mainGlobals "isinstance" = some none)
  (z_enumerate:PySem.W.nsIn K mainGlobals "enumerate" = some none)
  (z_reversed:PySem.W.nsIn K mainGlobals "reversed" = some none)
  (z_sorted:PySem.W.nsIn K mainGlobals "sorted" = some none)
  (z_max:PySem.W.nsIn K mainGlobals "max" = some none)
  (z_min:PySem.W.nsIn K mainGlobals "min" = some none)
  (z_sum:PySem.W.nsIn K mainGlobals "sum" = some none)
  (z_zip:PySem.W.nsIn K mainGlobals "zip" = some none)
  {tFIGURES:Tok} (zcFIGURES:PySem.W.nsIn K mainGlobals "FIGURES" = some (some (.str "0123456789" tFIGURES)))
  {tMOST_FIGURES:Tok} (zcMOST_FIGURES:PySem.W.nsIn K mainGlobals "MOST_FIGURES" = some (some (.int 40 tMOST_FIGURES)))
  {cE cB cN cR cG cT fB:Addr} (z_VE:PySem.W.nsIn K mainGlobals "ValueError" = some none) (e0:PySem.W.nsIn K mainGlobals "NestError" = some (some (.ref cE))) (b1:Ds.Xs K cB cE fB "BadText" "BadText.__init__" "at" tL)
  (aN:PySem.W.nsIn K mainGlobals "NoName" = some (some (.ref cN))) (aR:PySem.W.nsIn K mainGlobals "NoRow" = some (some (.ref cR))) (aG:PySem.W.nsIn K mainGlobals "TooGreat" = some (some (.ref cG))) (aT:PySem.W.nsIn K mainGlobals "Twice" = some (some (.ref cT))) (kit:Ds.yV K cB cE cN cR cG cT=true)
  : ∃ fd:FuncData,(∀(s:Shared) (v:Value),BindsTo s fd ⟨[v],[]⟩ [("_law_script",v)])/\∀ base:Heap,K.In base->base.Ns mainGlobals mg->FnOk l.prog w K mg base pA 7 fa fd ["_law_script"] (Dp.pM K):=by
 have B:Bl mg:=⟨PySem.W.mg_none_of X G z_len,PySem.W.mg_none_of X G z_range,PySem.W.mg_none_of X G z_all,PySem.W.mg_none_of X G z_any,PySem.W.mg_none_of X G z_abs,PySem.W.mg_none_of X G z_int,PySem.W.mg_none_of X G z_bool,PySem.W.mg_none_of X G z_str,PySem.W.mg_none_of X G z_list,PySem.W.mg_none_of X G z_tuple,PySem.W.mg_none_of X G z_dict,PySem.W.mg_none_of X G z_isinstance,PySem.W.mg_none_of X G z_enumerate,PySem.W.mg_none_of X G z_reversed,PySem.W.mg_none_of X G z_sorted,PySem.W.mg_none_of X G z_max,PySem.W.mg_none_of X G z_min,PySem.W.mg_none_of X G z_sum,PySem.W.mg_none_of X G z_zip⟩;have W:Ds.Mg K mg:=fun _ _ a=>PySem.W.mg_of X G a;obtain⟨a,fd,F⟩:=h23;cases hfa.symm.trans (W _ _ a);refine⟨fd,?_,fun base _ _=>?_⟩
 ·obtain⟨oc,od,kV,doc,pm,an,cdv,ct,osl,rfl,lk,hcd⟩:=F.ex;exact fun s v=>.of_eq rfl
 have gf:Def l.prog w K mg base "_law_flow" 1 ["_law_script"] (lZ K):=by
  obtain⟨a,fd,F⟩:=h7;exact .of F (W _ _ a) (F.binds (Ds.b1 fun _ _ _ _ _ _ _=>rfl)) (wy F B)
 have gp:Def l.prog w K mg base "_law_pick" 1 ["_law_flow_here", "_law_many"] (Dp.mM K Dp.dR.n Dp.dR.run):=by
  obtain⟨a,fd,F⟩:=h8;exact Dp.sU (.of F (W _ _ a) (F.binds (Ds.b2 fun _ _ _ _ _ _ _ _=>rfl)) (wv F B))
 have G0:=Ds.oa gp Ds.CZ;have x1:Dp.XDef l.prog w K mg base "BadText" 1 cB "at" := b1.xdef (pn := "at") W (Ds.sc (by kernel_rfl) rfl rfl rfl) rfl rfl rfl rfl rfl (fun kV doc pm an cdv ct us hl=>by
  match us,hl with
  | [a,b],_=>rfl)
 have ga:Def l.prog w K mg base "_law_alike" 3 ["_law_found", "_law_due"] (Dp.mM K (Dp.d6 3).n (Dp.d6 3).run):=by
  obtain⟨a,fd,F⟩:=h9;exact Dp.rC (.of F (W _ _ a) (F.binds (Ds.b2 fun _ _ _ _ _ _ _ _=>rfl)) (lJ F B (W _ _ a) (F.binds (Ds.b2 fun _ _ _ _ _ _ _ _=>rfl)) 3))
 have Ga:=Ds.oa ga G0;have G1:=Ds.oa (Ds.qu 0 Ds.o0 h1 W B gk rfl Ga Ds.og (Ds.b2 fun _ _ _ _ _ _ _ _=>rfl) (by kernel_rfl) (Dp.fI)) Ga;have G3:=Ds.oa (Ds.qu 0 ([(43,[2]),(2000039,[])],[38],[2]) h3 W B gy rfl G1 Ds.og (Ds.b1 fun _ _ _ _ _ _ _=>rfl) (by kernel_rfl) (Dp.fT)) G1;have G10:=Ds.oa (Ds.qu 0 Ds.o0 h10 W B gA rfl G3 Ds.og (Ds.b2 fun _ _ _ _ _ _ _ _=>rfl) (by kernel_rfl) (Dp.fQ)) G3;have G14:=Ds.oa (Ds.qu 0 Ds.o0 h14 W B fc rfl G10 Ds.og (Ds.b1 fun _ _ _ _ _ _ _=>rfl) (by kernel_rfl) (Dp.eQ)) G10;have G15:=Ds.oa (Ds.qu 0 Ds.o0 h15 W B gm rfl G14 Ds.og (Ds.b1 fun _ _ _ _ _ _ _=>rfl) (by kernel_rfl) (Dp.fJ)) G14;have G2:=Ds.oa (Ds.qu 1 Ds.o0 h2 W B hU rfl G15 Ds.og (Ds.b2 fun _ _ _ _ _ _ _ _=>rfl) (by kernel_rfl) (Dp.gu)) G15;have G4:=Ds.oa (Ds.qu 1 Ds.o0 h4 W B fL rfl G2 Ds.og (Ds.b1 fun _ _ _ _ _ _ _=>rfl) (by kernel_rfl) (Dp.fA)) G2;have G11:=Ds.oa (Ds.qu 1 Ds.o0 h11 W B gb rfl G4 Ds.og (Ds.b2 fun _ _ _ _ _ _ _ _=>rfl) (by kernel_rfl) (Dp.fF)) G4;have G12:=Ds.oa (Ds.qu 1 Ds.o0 h12 W B gB rfl G11 Ds.og (Ds.b2 fun _ _ _ _ _ _ _ _=>rfl) (by kernel_rfl) (Dp.fS)) G11;have G16:=Ds.oa (Ds.qu 1 Ds.o0 h16 W B fh rfl G12 Ds.og (Ds.b1 fun _ _ _ _ _ _ _=>rfl) (by kernel_rfl) (Dp.eS)) G12;have G17:=Ds.oa (Ds.qu 1 Ds.o0 h17 W B hV rfl G16 Ds.og (Ds.b1 fun _ _ _ _ _ _ _=>rfl) (by kernel_rfl) (Dp.gw)) G16;have G19:=Ds.oa (Ds.qu 1 Ds.o0 h19 W B gN rfl G17 Ds.og (Ds.b2 fun _ _ _ _ _ _ _ _=>rfl) (by kernel_rfl) (Dp.gh)) G17;have D5:=Ds.Cl 2 Ds.o0 (gc:=[("FIGURES",(.str "0123456789")),("MOST_FIGURES",(.int 40))]) h5 W B gz rfl G19 (Ds.BY (Ds.w9 X G zcFIGURES) (Ds.BY (Ds.xa X G zcMOST_FIGURES) Ds.og)) (Ds.t6 (x8:=(Dp.X8.mk cB)) x1 Ds.Cr) (Ds.b1 fun _ _ _ _ _ _ _=>rfl) (fun E=>by kernel_rfl) (Dp.fW (Dp.X8.mk cB)) (fun E=>⟨rfl,rfl⟩);have G13:=Ds.oa (Ds.qu 2 Ds.o0 h13 W B fm rfl G19 Ds.og (Ds.b2 fun _ _ _ _ _ _ _ _=>rfl) (by kernel_rfl) (Dp.eY)) G19;have G21:=Ds.oa (Ds.qu 2 Ds.o0 h21 W B fN rfl G13 Ds.og (Ds.b2 fun _ _ _ _ _ _ _ _=>rfl) (by kernel_rfl) (Dp.fk)) G13;have D6:=Ds.Cl 3 Ds.o0 h6 W B fM rfl G21 Ds.og (Ds.t6 (x8:=(Dp.X8.mk cB)) x1 (Ds.CY D5 Ds.Cr)) (Ds.b1 fun _ _ _ _ _ _ _=>rfl) (fun E=>by kernel_rfl) (Dp.fE (Dp.X8.mk cB)) (fun E=>⟨rfl,rfl⟩);have G20:=Ds.oa (Ds.qu 3 Ds.o0 h20 W B gO rfl G21 Ds.og (Ds.b1 fun _ _ _ _ _ _ _=>rfl) (by kernel_rfl) (Dp.fY)) G21;have HA:=Ds.xU (x8:=(Dp.X8.mk cB)) W b1.x kit b1.n b1.a e0 (PySem.W.mg_none_of X G z_VE) AM aN aR aG aT (Ds.Ba D6 Ds.Bb);have G18:=Ds.oa (Ds.BH 4 Ds.o0 h18 W B gM rfl G20 Ds.og HA (Ds.b2 fun _ _ _ _ _ _ _ _=>rfl) (by kernel_rfl) (Dp.gj (Dp.X8.mk cB) f6 [(f6,4,Dp.dY (Dp.X8.mk cB))] Ds.CV)) G20;have G22:=Ds.oa (Ds.qu 5 Ds.o0 (gc:=[("read_fraction",.fn f6)]) h22 W B gP rfl G18 (Ds.BY (Ds.zn W h6.a) Ds.og) (Ds.b1 fun _ _ _ _ _ _ _=>rfl) (by kernel_rfl) (Dp.fZ f6)) G18;exact Ds.yO (n:=40) (k:=6) (gc:=[]) (fz:=[]) (own:=[]) (mu:=[]) F B jb gf (Ds.oa D6.plain G22) Ds.og rfl (by decide) (by first|exact Or.inl rfl|exact Or.inr rfl) (by first|exact Or.inl rfl|exact Or.inr rfl) rfl (by kernel_rfl) (Dp.um (Dp.X8.mk cB))
theorem walk{l:PySem.W.OpenLaw}{q:Program}{loose:List Str}{XP:(Str->Option Value)->Heap->Prop}{YP:World->Heap->Prop}{d:DefRec}{K:Params->Frag}(hn:l.most=some 63)(hdf:d.params.defaults=[])
  (hY:∀(w:World) (h:Heap),YP w h->(K w.params).In h)
  (F:∀(w:World) (mg:Str->Option Value) (fa:Addr) (h:Heap),(K w.params).In h->h.Ns mainGlobals mg->mg d.name=some (.ref fa) ->
   ∃ fd:FuncData,(∀(s:Shared) (u:Value),BindsTo s fd ⟨[u],[]⟩ [("_law_script",u)])/\∀ base:Heap,(K w.params).In base->base.Ns mainGlobals mg->FnOk l.prog w (K w.params) mg base pA 7 fa fd ["_law_script"] (Dp.pM (K w.params))) (hi:PyProof.Rows.importsNone q=true) (ht:l.prog.given.tree=none) :
  PySem.W.WalkO q loose XP YP l.row.toRowW d [] (fun f vs=>PySem.call f vs) :=
 L2.vP (n:=63) (k:=7) (x := "_law_script") (CX:=fun _=>pA) (sp:=fun w=>Dp.pM (K w.params)) hn (by decide) hdf ⟨rfl,by decide,by decide⟩ hY F (fun _ _ a ns hl _ hS=>⟨a,ns,rfl,hS,hl,fun _=>rfl⟩) (fun _ _ _ _ _ z=>z) hi ht
end My
def PySem.W.Fast.tw4573238971966765264:Unit:=()
def PySem.W.Fast.tw13708736923570327289:Unit:=()
def PySem.W.Fast.tw6554453703214875262:Unit:=()
def PySem.W.Fast.tw4490913042128359351:Unit:=()
def PySem.W.Fast.tw3477261925192611841:Unit:=()
def PySem.W.Fast.tw16361990732485764645:Unit:=()
def PySem.W.Fast.tw1325496247046379846:Unit:=()
def PySem.W.Fast.tw9695992471171541415:Unit:=()
def PySem.W.Fast.tw7619113624762583184:Unit:=()
def PySem.W.Fast.tw5669289273521739677:Unit:=()
def PySem.W.Fast.tw16687825991301341830:Unit:=()
def PySem.W.Fast.tw14771680222801741633:Unit:=()
def PySem.W.Fast.tw5289942967563740280:Unit:=()
def PySem.W.Fast.tw4127445239595379089:Unit:=()
def PySem.W.Fast.tw11888856813035980696:Unit:=()
def PySem.W.Fast.tw4329072795850711020:Unit:=()
def PySem.W.Fast.tw11084944096113769572:Unit:=()
def PySem.W.Fast.tw14641287376590749676:Unit:=()
def PySem.W.Fast.tw352814993536412041:Unit:=()
def PySem.W.Fast.tw13880545540280442565:Unit:=()
def PySem.W.Fast.tw13179291338117264149:Unit:=()
def PySem.W.Fast.tw2176669017573027382:Unit:=()
def PySem.W.Fast.tw15661568155271407609:Unit:=()
def PySem.W.Fast.tw17342038692258150883:Unit:=()
def PySem.W.Fast.tw9562859301870592016:Unit:=()
def PySem.W.Fast.tw18307019117181420294:Unit:=()
def PySem.W.Fast.tw117904333511171281:Unit:=()
def PySem.W.Fast.tw549612049981525171:Unit:=()
def PySem.W.Fast.tw3962580370302338607:Unit:=()
def PySem.W.Fast.tw9363258062497701018:Unit:=()
def PySem.W.Fast.tw8002647205709595165:Unit:=()
def PySem.W.Fast.tw6604033281118919888:Unit:=()
def PySem.W.Fast.tw11259010855774893386:Unit:=()
def PySem.W.Fast.tw18154200637930831600:Unit:=()
def PySem.W.Fast.tw8766606051222359234:Unit:=()
def PySem.W.Fast.tw3137743538067649972:Unit:=()
def PySem.W.Fast.tw12001523832092859549:Unit:=()
def PySem.W.Fast.tw13298139319296331331:Unit:=()
def PySem.W.Fast.tw18224301768053016486:Unit:=()
open PySem PySem.W PyProof.Rows
set_option maxRecDepth 100000 in
set_option maxHeartbeats 0 in
theorem PySem.Challenge.cw_nestwright_k09_fractions_as_texts_holds : PySem.Challenge.rw_nestwright_k09_fractions_as_texts.Holds := by
 w_on;o_law;k_head;(case hw=>w_witness2)
 k_fill
 refine My.walk (l:=PySem.Challenge.rw_nestwright_k09_fractions_as_texts) rfl rfl (fun w h Y=>PySem.W.kIn_of Y) ?F ?hi rfl
 (case hi=>kernel_rfl)
 case F =>
  intro w mg fa h KX G hmg;refine' My.zy KX G hmg (Ds.sl ?a1 ?l1 ?c1 ?k1) (Ds.sl ?a2 ?l2 ?c2 ?k2) (Ds.sl ?a3 ?l3 ?c3 ?k3) (Ds.sl ?a4 ?l4 ?c4 ?k4) (Ds.sl ?a5 ?l5 ?c5 ?k5) (Ds.sl ?a6 ?l6 ?c6 ?k6) (Ds.sl ?a7 ?l7 ?c7 ?k7) (Ds.sl ?a8 ?l8 ?c8 ?k8) (Ds.sl ?a9 ?l9 ?c9 ?k9) (Ds.sl ?a10 ?l10 ?c10 ?k10) (Ds.sl ?a11 ?l11 ?c11 ?k11) (Ds.sl ?a12 ?l12 ?c12 ?k12) (Ds.sl ?a13 ?l13 ?c13 ?k13) (Ds.sl ?a14 ?l14 ?c14 ?k14) (Ds.sl ?a15 ?l15 ?c15 ?k15) (Ds.sl ?a16 ?l16 ?c16 ?k16) (Ds.sl ?a17 ?l17 ?c17 ?k17) (Ds.sl ?a18 ?l18 ?c18 ?k18) (Ds.sl ?a19 ?l19 ?c19 ?k19) (Ds.sl ?a20 ?l20 ?c20 ?k20) (Ds.sl ?a21 ?l21 ?c21 ?k21) (Ds.sl ?a22 ?l22 ?c22 ?k22) (Ds.sl ?a23 ?l23 ?c23 ?k23) ?z_len ?z_range ?z_all ?z_any ?z_abs ?z_int ?z_bool ?z_str ?z_list ?z_tuple ?z_dict ?z_isinstance ?z_enumerate ?z_reversed ?z_sorted ?z_max ?z_min ?z_sum ?z_zip ?zcFIGURES ?zcMOST_FIGURES ?z_VE ?e0 (Ds.xs ?ba ?bm ?bk ?bi ?bt ?bx ?bn ?bl ?bc ?bf) ?aN ?aR ?aG ?aT ?kit
  (case a1=>k_is);(case l1=>k_is);(case c1=>k_is);(case k1=>k_is)
  (case a2=>k_is);(case l2=>k_is);(case c2=>k_is);(case k2=>k_is)
  (case a3=>k_is);(case l3=>k_is);(case c3=>k_is);(case k3=>k_is)
  (case a4=>k_is);(case l4=>k_is);(case c4=>k_is);(case k4=>k_is)
  (case a5=>k_is);(case l5=>k_is);(case c5=>k_is);(case k5=>k_is)
  (case a6=>k_is);(case l6=>k_is);(case c6=>k_is);(case k6=>k_is)
  (case a7=>k_is);(case l7=>k_is);(case c7=>k_is);(case k7=>k_is)
  (case a8=>k_is);(case l8=>k_is);(case c8=>k_is);(case k8=>k_is)
  (case a9=>k_is);(case l9=>k_is);(case c9=>k_is);(case k9=>k_is)
  (case a10=>k_is);(case l10=>k_is);(case c10=>k_is);(case k10=>k_is)
  (case a11=>k_is);(case l11=>k_is);(case c11=>k_is);(case k11=>k_is)
  (case a12=>k_is);(case l12=>k_is);(case c12=>k_is);(case k12=>k_is)
  (case a13=>k_is);(case l13=>k_is);(case c13=>k_is);(case k13=>k_is)
  (case a14=>k_is);(case l14=>k_is);(case c14=>k_is);(case k14=>k_is)
  (case a15=>k_is);(case l15=>k_is);(case c15=>k_is);(case k15=>k_is)
  (case a16=>k_is);(case l16=>k_is);(case c16=>k_is);(case k16=>k_is)
  (case a17=>k_is);(case l17=>k_is);(case c17=>k_is);(case k17=>k_is)
  (case a18=>k_is);(case l18=>k_is);(case c18=>k_is);(case k18=>k_is)
  (case a19=>k_is);(case l19=>k_is);(case c19=>k_is);(case k19=>k_is)
  (case a20=>k_is);(case l20=>k_is);(case c20=>k_is);(case k20=>k_is)
  (case a21=>k_is);(case l21=>k_is);(case c21=>k_is);(case k21=>k_is)
  (case a22=>k_is);(case l22=>k_is);(case c22=>k_is);(case k22=>k_is)
  (case a23=>k_is);(case l23=>k_is);(case c23=>k_is);(case k23=>k_is)
  (case z_len=>k_is)
  (case z_range=>k_is)
  (case z_all=>k_is)
  (case z_any=>k_is)
  (case z_abs=>k_is)
  (case z_int=>k_is)
  (case z_bool=>k_is)
  (case z_str=>k_is)
  (case z_list=>k_is)
  (case z_tuple=>k_is)
  (case z_dict=>k_is)
  (case z_isinstance=>k_is)
  (case z_enumerate=>k_is)
  (case z_reversed=>k_is)
  (case z_sorted=>k_is)
  (case z_max=>k_is)
  (case z_min=>k_is)
  (case z_sum=>k_is)
  (case z_zip=>k_is)
  (case zcFIGURES=>k_is)
  (case zcMOST_FIGURES=>k_is)
  (case z_VE=>k_is)
  (case e0=>k_is)
  (case ba=>k_is)
  (case bm=>kernel_rfl)
  (case bk=>k_is)
  (case bi=>k_is)
  (case bt=>k_is)
  (case bx=>kernel_rfl)
  (case bn=>k_is)
  (case bl=>k_is)
  (case bc=>k_is)
  (case bf=>k_is)
  (case aN=>k_is)
  (case aR=>k_is)
  (case aG=>k_is)
  (case aT=>k_is)
  (case kit=>kernel_rfl)
