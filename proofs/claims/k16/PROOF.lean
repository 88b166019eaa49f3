import PyProof.Rows.All
import Wide.All
import OpenK.AllK
import Wide.FinOn
import Lean
import PyProof.EqAt
import PyProof.EqKinds
import PyProof.TupleCall
import KE.KTryDeep
import KE.KTryMore
import KE.KItemsList
import KE.KEqDict
import KE.KSortTup
import PyProof.Rows.Range3
import KE.IntTextText
import PySem.Challenge.RW_nestwright_k16_reaches_told
open PySem.W (Frag)
open Array renaming getElem?_eq_some_iff → a8, length_toList → bL, getElem?_toList → bX, getElem?_eq_getElem → cx
open Bool renaming and_eq_true_iff → ae, false_ne_true → am, and_eq_true → aC, not_eq_true' → aY, false_eq_true → a9, eq_iff_iff → bf, false_and → cw, or_eq_true_iff → cO, eq_false_iff → cZ
open Int renaming toNat_natCast → aI, eq_ofNat_of_zero_le → aM, natCast_mul → bv, fmod_eq_emod_of_nonneg → bB, emod_lt_of_pos → bE, emod_nonneg → bN, fdiv_eq_ediv_of_nonneg → bP, natCast_add → cs, natAbs_mul → cB, mul_fdiv_cancel_left → cD, fmod_nonneg_of_pos → cG, fmod_def → cH, gcd_eq_zero_iff → cS, natAbs_natCast → cW, lt_or_gt_of_ne → cX, fmod_lt_of_pos → cY, lt_trichotomy → c7
open List renaming size_toArray → af, mem_cons → ah, length_map → aj, mem_singleton → ao, getElem?_eq_some_iff → aq, mem_cons_of_mem → ar, not_mem_nil → au, mem_cons_self → av, getElem?_eq_getElem → aw, getElem?_set_ne → ax, getElem?_set → ay, getElem?_map → aA, length_append → aB, mem_append_right → aE, mem_of_getElem? → aF, map_cons → aH, length_cons → aJ, append_nil → aL, length_set → aO, all_eq_true → aP, map_append → aR, replicate_succ → aV, contains_cons → aX, length_reverse → a5, length_take → a7, getElem?_append_left → ba, mem_filter → bc, mem_append → bd, mem_map → bg, flatten_cons → bh, any_cons → bn, length_eq_zero_iff → bo, getElem?_set_self → br, nodup_cons → bt, find?_cons → bu, getElem?_reverse → bw, getElem?_append_right → bz, getD_eq_getElem?_getD → bA, lookup_cons → bC, filterMap_cons → bD, take_length → bH, isEmpty_iff → bI, getElem_of_mem → bM, reverse_cons → bQ, length_drop → bR, getElem?_cons_succ → bS, of_mem_zip → bW, length_singleton → bY, length_replicate → bZ, getElem?_eq_none → b0, all_cons → b8, map_map → ce, ext_getElem? → ci, map_reverse → cq, any_eq_true → cr, drop_zero → cu, pairwise_iff_getElem → cA, eq_of_mem_replicate → cC, all_map → cE, dropLast_eq_take → cF, mem_append_left → cJ, length_pos_iff → cM, flatMap_append → cN, mem_filterMap → cQ, filterMap_nil → cR, any_eq_false → cV, getElem_mem → c6
open Nat renaming le_refl → ai, lt_of_lt_of_le → ak, le_trans → az, ne_of_lt → aD, pow_le_pow_right → aG, mul_le_mul_left → aK, lt_irrefl → aN, lt_of_le_of_lt → aQ, zero_le → aS, le_max_right → aT, pow_succ → aU, le_max_left → aW, lt_succ_of_le → aZ, le_of_lt → a6, lt_succ_self → bp, le_of_succ_le → bx, pow_add → bF, mul_le_mul → bG, pow_pos → bJ, le_succ → bK, lt_or_ge → bO, mul_lt_mul'' → bT, ne_of_gt → bU, le_mul_of_pos_left → bV, max_lt → cb, mul_comm → cj, lt_succ_of_lt → cm, le_succ_of_le → cn, not_lt → cy, sub_le_sub_right → cK, pow_lt_pow_right → cL, pos_of_ne_zero → cT, max_le → cU
open Option renaming map_eq_some_iff → aa, ite_none_right_eq_some → ac, bind_eq_some_iff → ad, ite_none_left_eq_some → bq, isSome_map → b9, bind_some → cc, isSome_some → cI, getD_none → cP
set_option Elab.async false
set_option linter.all false
set_option maxRecDepth 100000
set_option genSizeOf false
set_option bootstrap.genMatcherCode false
local macro_rules|`(tactic| omega) => `(tactic| lia)
namespace L2
open PySem PySem.Spec PyProof.Rows
abbrev jb:=Sum Int Str
def lw:jb->Value->Bool
 | .inl k,v=>Value.isInt k v
 | .inr x,v=>Value.isStrOf x v
def Cm(w:World):jb->Int
 | .inl k=>hashInt k
 | .inr x=>hashStr w x
theorem je:∀{k:jb} {v:Value},lw k v=true->(∃ i t,k=Sum.inl i/\v=Value.int i t)\/(∃ x t,k=Sum.inr x/\v=Value.str x t)
 | .inl i,v,h=>by
  obtain⟨t,e⟩:=Value.isInt_shape (k:=i) (v:=v) h;exact .inl ⟨i,t,rfl,e⟩
 | .inr x,v,h=>by
  obtain⟨t,e⟩:=Value.isStrOf_shape (x:=x) (v:=v) h;exact .inr ⟨x,t,rfl,e⟩
theorem mX(i:Int)(t:Tok):lw (.inl i) (.int i t)=true:=by simp [lw,Value.isInt]
theorem mW(x:Str)(t:Tok):lw (.inr x) (.str x t)=true:=by simp [lw,Value.isStrOf]
theorem za(a b:Int):decide ((Sum.inl a:jb)=Sum.inl b)=(a == b):=by
 by_cases e:a=b
 ·subst e;simp
 ·have h:¬ (Sum.inl a:jb)=Sum.inl b:=fun q=>e (Sum.inl.inj q);rw [decide_eq_false h];exact (beq_eq_false_iff_ne.mpr e).symm
theorem y7(a b:Str):decide ((Sum.inr a:jb)=Sum.inr b)=decide (a=b):=by
 by_cases e:a=b
 ·subst e;simp
 ·have h:¬ (Sum.inr a:jb)=Sum.inr b:=fun q=>e (Sum.inr.inj q);rw [decide_eq_false h,decide_eq_false e]
theorem y9(a:Int)(b:Str):decide ((Sum.inl a:jb)=Sum.inr b)=false:=decide_eq_false (fun q=>nomatch q)
theorem y8(a:Str)(b:Int):decide ((Sum.inr a:jb)=Sum.inl b)=false:=decide_eq_false (fun q=>nomatch q)
def i8(prog:Program)(w:World):PySem.KeyKind prog w jb where
 is:=lw
 hash:=Cm w
 inj:=fun v a b ha hb=>by
  rcases je ha with⟨i,t,rfl,rfl⟩|⟨x,t,rfl,rfl⟩
  ·rcases je hb with⟨j,u,rfl,e⟩|⟨y,u,rfl,e⟩
   ·injection e with e1 _;rw [e1]
   ·exact nomatch e
  ·rcases je hb with⟨j,u,rfl,e⟩|⟨y,u,rfl,e⟩
   ·exact nomatch e
   ·injection e with e1 _;rw [e1]
 byValue:=fun k v h=>by
  rcases je h with⟨i,t,rfl,rfl⟩|⟨x,t,rfl,rfl⟩ <;> rfl
 pyHash:=fun hv h=>by
  rcases je hv with⟨i,t,rfl,rfl⟩|⟨x,t,rfl,rfl⟩
  ·exact wpAny_pyHash_int h
  ·exact wpAny_pyHash_str h
 eqBool:=fun hu hv h=>by
  rcases je hu with⟨i,t,rfl,rfl⟩|⟨x,t,rfl,rfl⟩
  ·rcases je hv with⟨j,u,rfl,rfl⟩|⟨y,u,rfl,rfl⟩
   ·rw [za] at h;exact wpAny_eqBool_int h
   ·rw [y9] at h;exact SeqAt.EqAt.int_str i t y u _ _ _ _ h
  ·rcases je hv with⟨j,u,rfl,rfl⟩|⟨y,u,rfl,rfl⟩
   ·rw [y8] at h;exact SeqAt.EqAt.str_int x t j u _ _ _ _ h
   ·rw [y7] at h;exact wpAny_eqBool_str h
 «strs» := fun k x t v h=>by
  rcases je h with⟨i,u,rfl,e⟩|⟨y,u,rfl,e⟩
  ·exact nomatch e
  ·injection e with e1 _;subst e1;cases v <;> rfl
theorem oQ(prog:Program)(w:World)(i:Int)(t:Tok):(i8 prog w).is (.inl i) (.int i t)=true:=mX i t
theorem oP(prog:Program)(w:World)(x:Str)(t:Tok):(i8 prog w).is (.inr x) (.str x t)=true:=mW x t
end L2
namespace L2
open PySem PySem.Spec PyProof.Rows
inductive V where
 | non|bl (b:Bool)|int (i:Int)|str (x:Str)|byt (b:Array UInt8)|flt (b:UInt64)|ref (a:Addr)|ty (n:String)
 deriving DecidableEq
def RelV:V->Value->Prop
 | .non,u=>u=Value.none
 | .bl b,u=>u=Value.bool b
 | .int i,u=>∃ t,u=Value.int i t
 | .str x,u=>∃ t,u=Value.str x t
 | .byt b,u=>∃ t,u=Value.bytes b t
 | .flt b,u=>∃ t,u=Value.float b t
 | .ref a,u=>u=Value.ref a
 | .ty n,u=>u=Value.type n
abbrev Vals:List V->List Value->Prop:=Paired RelV
theorem Vals.length{xs:List V}{us:List Value}(r:Vals xs us):xs.length=us.length:=Paired.length r
theorem Vals.get:∀{xs:List V} {us:List Value} {i:Nat} {x:V},Vals xs us->xs[i]? = some x->∃ u,us[i]? = some u/\RelV x u
 | _,_,_,_,.nil,e=>by simp at e
 | _,_,0,_,.cons r _,e=>by simp at e;subst e;exact⟨_,rfl,r⟩
 | _,_,i+1,x,.cons _ t,e=>by
  obtain⟨u,h1,h2⟩:=Vals.get (i:=i) (x:=x) t (by simpa using e);exact⟨u,by simpa using h1,h2⟩
theorem Vals.set{x:V}{u:Value}(r:RelV x u):∀{xs:List V} {us:List Value} (i:Nat),Vals xs us->Vals (xs.set i x) (us.set i u)
 | _,_,_,.nil=>.nil
 | _,_,0,.cons _ t=>.cons r t
 | _,_,i+1,.cons q t=>.cons q (Vals.set r i t)
theorem Vals.append:∀{xs ys:List V} {us ws:List Value},Vals xs us->Vals ys ws->Vals (xs++ys) (us++ws)
 | _,_,_,_,.nil,s=>s
 | _,_,_,_,.cons r t,s=>.cons r (Vals.append t s)
theorem Vals.take:∀{xs:List V} {us:List Value} (n:Nat),Vals xs us->Vals (xs.take n) (us.take n)
 | _,_,0,_=>.nil
 | _,_,_+1,.nil=>.nil
 | _,_,n+1,.cons r t=>.cons r (Vals.take n t)
theorem Vals.drop:∀{xs:List V} {us:List Value} (n:Nat),Vals xs us->Vals (xs.drop n) (us.drop n)
 | _,_,0,r=>r
 | _,_,_+1,.nil=>.nil
 | _,_,n+1,.cons _ t=>Vals.drop n t
def RelO:Option V->Option Value->Prop
 | some v,some u=>RelV v u
 | none,none=>True
 | _,_=>False
def KV{κ:Type}:List (κ×V)->List (κ×Value)->Prop:=Paired fun (p:κ×V) (q:κ×Value)=>p.1=q.1/\RelV p.2 q.2
def kV:jb->V
 | .inl i=>.int i
 | .inr x=>.str x
inductive HO where
  | lst (xs:List V)
  | tup (xs:List V)
  | dK (kvs:List (jb×V))|dT (kvs:List (List jb×V))
  | set (S:Int->Bool) (n:Nat)
  | ins (C dx:Addr) (fs:List (Str×V))
  | own (x:Addr)
  | xd (fs:List (Str×V))
  | met (f x:Addr)
  | rng (lo hi:Int)
  | frz (o:Obj) (u:HO)
  | tbl (ps:Array Value)
  | ext (φ:Heap->Prop)
abbrev Hp:=Addr->Option HO
def i6(H:Hp)(a:Addr)(o:HO):Hp:=fun b=>if b=a then some o else H b
theorem iU{H:Hp}{a:Addr}{o:HO}:i6 H a o a=some o:=by unfold i6;rw [if_pos rfl]
theorem iT{H:Hp}{a b:Addr}{o:HO}(h:b≠a):i6 H a o b=H b:=by unfold i6;rw [if_neg h]
theorem qK{H:Hp}{a:Addr}{o u:HO}:i6 (i6 H a o) a u=i6 H a u:=by
 funext b;unfold i6;split <;> rfl
theorem xL{H:Hp}{a b:Addr}{o u:HO}(h:H a=some o)(h':H b=some u)(d:o≠u):a≠b:=by
 intro e;subst e;rw [h] at h';exact d (Option.some.inj h')
theorem iZ{H:Hp}{a b:Addr}{o:HO}(h:H a=some o)(h':H b=none):a≠b:=by
 intro e;subst e;rw [h] at h';cases h'
section
variable(P:Program)(w:World)
def ObjOk(H:Hp)(h:Heap)(a:Addr):HO->Prop
 | .lst xs=>xs.length<=sizeLine/\∃(its:List Value) (n:Nat),Vals xs its/\h.get? a=some { cls:=.type "list",data:=.seq its.toArray n }
 | .tup xs=>xs.length<=sizeLine/\∃ its:List Value,Vals xs its/\IsTup h a its.toArray
 | .dK kvs=>kvs.length<=sizeLine/\(a == sysModules)=false/\∃ vs,KV kvs vs/\h.DictOf (i8 P w) a vs
 | .dT kvs=>kvs.length<=sizeLine/\(a == sysModules)=false/\∃ xs:List (List jb×Addr×Value),
   Paired (fun (p:List jb×V) (q:List jb×Addr×Value)=>p.1=q.1/\H q.2.1=some (.tup (p.1.map kV))/\RelV p.2 q.2.2) kvs xs /\
   ∃ o es ep,h.get? a=some o/\o.ExactDict/\o.data = .dict es ep/\es.toList=xs.map (entryOfKey (tupleKind (i8 P w)))/\(xs.map (·.1)).Nodup
 | .set S n=>h.SetOf (intKind P w) a S n
 | .ins C dx fs=>H dx=some (.own a)/\fs.length<=1000/\dx≠a/\h.get? a=some (PySem.W.instObj C dx) /\
   ∃ mA,h.Ns1 dx mA/\(∀ f,RelO (fs.lookup f) (mA f))/\PySem.Within mA (fs.map (·.1))
 | .own _=>∃ o,h.get? a=some o
 | .xd fs=>∃ mA,h.Ns1 a mA/\∀ f,RelO (fs.lookup f) (mA f)
 | .rng lo hi=>∃ t u v,h.get? a=some { cls:=.type "range",data:=.fields #[.int lo t,.int hi u,.int 1 v] }
 | .frz o u=>h.get? a=some o/\ObjOk H h a u
 | .tbl ps=>h.get? a=some { cls:=.none,data:=.fields ps }
 | .met f x=>h.get? a=some (PySem.W.methodObj (.ref f) (.ref x))
 | .ext φ=>φ h/\(∃ o,h.get? a=some o)/\∀ h1 h2:Heap,φ h1->(∀ o,h1.get? a=some o->h2.get? a=some o)->φ h2
def HOk(H:Hp)(h:Heap):Prop:=∀ a o,H a=some o->ObjOk P w H h a o
end
section
variable{P:Program}{w:World}{H H':Hp}{h h':Heap}{a:Addr}{o:HO}
theorem ObjOk.lt(x:ObjOk P w H h a o):a<h.objs.size:=by
 cases o with
 | lst xs=>obtain⟨_,_,_,_,e⟩:=x;exact Heap.lt_size e
 | tup xs=>obtain⟨_,_,_,p⟩:=x;exact p.lt
 | dK kvs=>obtain⟨_,_,_,_,o,_,_,e,_⟩:=x;exact Heap.lt_size e
 | dT kvs=>obtain⟨_,_,_,_,o,_,_,e,_⟩:=x;exact Heap.lt_size e
 | set S n=>obtain⟨o,_,_,_,e,_⟩:=x;exact Heap.lt_size e
 | ins C dx fs=>obtain⟨_,_,_,e,_⟩:=x;exact Heap.lt_size e
 | own y=>obtain⟨_,e⟩:=x;exact Heap.lt_size e
 | xd fs=>obtain⟨_,⟨_,_,_,e,_⟩,_⟩:=x;exact Heap.lt_size e
 | rng lo hi=>obtain⟨_,_,_,e⟩:=x;exact Heap.lt_size e
 | frz ob u=>obtain⟨e,_⟩:=x;exact Heap.lt_size e
 | tbl ps=>exact Heap.lt_size (show h.get? a=some _ from x)
 | met f y=>exact Heap.lt_size (show h.get? a=some _ from x)
 | ext φ=>obtain⟨_,⟨_,e⟩,_⟩:=x;exact Heap.lt_size e
theorem Paired.mapP{α β:Type}{F G:α->β->Prop}:∀{l₁:List α} {l₂:List β},Paired F l₁ l₂->(∀ a b,F a b->G a b)->Paired G l₁ l₂
 | _,_,.nil,_=>.nil
 | _,_,.cons r t,f=>.cons (f _ _ r) (Paired.mapP t f)
theorem ObjOk.stay(x:ObjOk P w H h a o)(k:∀ b u,(b=a\/H b=some (.own a))->h.get? b=some u->h'.get? b=some u)
  (ho:∀ b,H b=some (.own a)->H' b=some (.own a)) (ht:∀ b xs,H b=some (.tup xs)->H' b=some (.tup xs)):ObjOk P w H' h' a o:=by
 induction o with
 | lst xs=>obtain⟨z,its,n,r,e⟩:=x;exact⟨z,its,n,r,k _ _ (.inl rfl) e⟩
 | tup xs=>obtain⟨z,its,r,ob,e,c⟩:=x;exact⟨z,its,r,ob,k _ _ (.inl rfl) e,c⟩
 | dK kvs=>obtain⟨z,y,vs,r,ob,es,ep,e,c⟩:=x;exact⟨z,y,vs,r,ob,es,ep,k _ _ (.inl rfl) e,c⟩
 | dT kvs =>
  obtain⟨z,y,xs,r,ob,es,ep,e,c⟩:=x;exact⟨z,y,xs,Paired.mapP r fun p q z=>⟨z.1,ht _ _ z.2.1,z.2.2⟩,ob,es,ep,k _ _ (.inl rfl) e,c⟩
 | set S n=>obtain⟨ob,es,ep,t,e,c⟩:=x;exact⟨ob,es,ep,t,k _ _ (.inl rfl) e,c⟩
 | ins C dx fs =>
  obtain⟨d,z,ne,e,mA,⟨od,es,ep,e2,c⟩,r⟩:=x;exact⟨ho _ d,z,ne,k _ _ (.inl rfl) e,mA,⟨od,es,ep,k _ _ (.inr d) e2,c⟩,r⟩
 | own y=>obtain⟨ob,e⟩:=x;exact⟨ob,k _ _ (.inl rfl) e⟩
 | xd fs=>obtain⟨mA,⟨od,es,ep,e,c⟩,r⟩:=x;exact⟨mA,⟨od,es,ep,k _ _ (.inl rfl) e,c⟩,r⟩
 | rng lo hi=>obtain⟨t,u,v,e⟩:=x;exact⟨t,u,v,k _ _ (.inl rfl) e⟩
 | frz ob u ih=>obtain⟨e,q⟩:=x;exact⟨k _ _ (.inl rfl) e,ih q⟩
 | tbl ps =>
  have e:h.get? a=some { cls:=.none,data:=.fields ps }:=x;show h'.get? a=some { cls:=.none,data:=.fields ps };exact k a _ (.inl rfl) e
 | met f y =>
  have e:h.get? a=some (PySem.W.methodObj (.ref f) (.ref y)):=x;show h'.get? a=some (PySem.W.methodObj (.ref f) (.ref y));exact k a _ (.inl rfl) e
 | ext φ=>obtain⟨p,⟨o,e⟩,st⟩:=x;exact⟨st _ _ p fun o q=>k _ _ (.inl rfl) q,⟨o,k _ _ (.inl rfl) e⟩,st⟩
theorem HOk.lt(x:HOk P w H h)(e:H a=some o):a<h.objs.size:=(x a o e).lt
theorem HOk.fresh(x:HOk P w H h)(e:h.objs.size<=a):H a=none:=by
 cases q:H a with
 | none=>rfl
 | some u=>exact absurd (ak (x.lt q) e) (aN _)
theorem HOk.kept(x:HOk P w H h)(k:∀ b u,h.get? b=some u->h'.get? b=some u):HOk P w H h':=fun a o e =>
 (x a o e).stay (fun b u _ q=>k b u q) (fun _ q=>q) fun _ _ q=>q
theorem HOk.laid(x:HOk P w H h)(k:∀ b u,h.get? b=some u->h'.get? b=some u)(hp:h.objs.size<=a)(new:ObjOk P w (i6 H a o) h' a o):HOk P w (i6 H a o) h':=fun b u e=>by
 have hn:=x.fresh hp;by_cases hb:b=a
 ·subst hb;rw [iU] at e;cases e;exact new
 ·rw [iT hb] at e;exact (x b u e).stay (fun c v _ q=>k c v q) (fun c q=>by rw [iT (iZ q hn)];exact q) fun c xs q=>by rw [iT (iZ q hn)];exact q
end
def Rd(H:Hp)(a:Addr)(u:HO):Prop:=H a=some u\/∃ o,H a=some (.frz o u)
theorem Rd.ok{P:Program}{w:World}{H:Hp}{h:Heap}{a:Addr}{u:HO}(r:Rd H a u)(x:HOk P w H h):ObjOk P w H h a u:=by
 rcases r with r|⟨o,r⟩
 ·exact x a u r
 ·obtain⟨_,q⟩:=x a _ r;exact q
def Bt:Option HO->Prop
 | some (.lst _)=>True
 | some (.dK _)=>True
 | some (.dT _)=>True
 | some (.set _ _)=>True
 | some (.ins _ _ _)=>True
 | some (.ext _)=>True
 | _=>False
section
variable{P:Program}{w:World}{H:Hp}{h h':Heap}{x e:Addr}{o':HO}
theorem HOk.write(ok:HOk P w H h)(mu:Bt (H x))(he:e=x\/H e=some (.own x))(k:∀ b u,b≠e->h.get? b=some u->h'.get? b=some u)(heo:∃ u,h'.get? e=some u)
  (new:ObjOk P w (i6 H x o') h' x o'):HOk P w (i6 H x o') h':=fun b u q=>by
 have nown:∀ c y,H c=some (.own y)->c≠x:=fun c y r z=>by subst z;rw [r] at mu;exact mu
 have ntup:∀ c xs,H c=some (.tup xs)->c≠x:=fun c xs r z=>by subst z;rw [r] at mu;exact mu
 by_cases hb:b=x
 ·subst hb;rw [iU] at q;cases q;exact new
 ·rw [iT hb] at q;by_cases hbe:b=e
  ·have q':H b=some (.own x):=by
    rcases he with z|z
    ·exact absurd (hbe.trans z) hb
    ·rw [hbe];exact z
   rw [q] at q';cases q';obtain⟨v,hv⟩:=heo;exact⟨v,by rw [hbe];exact hv⟩
  ·refine (ok b u q).stay (fun c v hc r=>k c v ?_ r) (fun c r=>by rw [iT (nown c b r)];exact r) fun c xs r=>by rw [iT (ntup c xs r)];exact r
   rcases hc with rfl|hc
   ·exact hbe
   ·rintro rfl;rcases he with z|z
    ·exact nown c b hc z
    ·rw [hc] at z;cases z;exact hb rfl
end
structure Un (fs ex:List Addr)(H H':Hp)(h h':Heap):Prop where
 keep:∀ b o,h.get? b=some o->H b=none->b ∉ fs->b ∉ ex->h'.get? b=some o
 slot:∀ b o,h.get? b=some o->H b=none->b∈fs->b ∉ ex->∃ sl,h'.get? b=some { o with slots:=sl }
 free:∀ b o,h.get? b=some o->H b=none->b ∉ ex->H' b=none
 there:∀ b o,h.get? b=some o->b ∉ ex->∃ o',h'.get? b=some o'
 tups:∀ b xs,H b=some (.tup xs)->H' b=some (.tup xs)
 frzs:∀ b o u,H b=some (.frz o u)->H' b=some (.frz o u)
 tbls:∀ b ps,H b=some (.tbl ps)->∃ more,H' b=some (.tbl (ps++more))
section
variable{fs fs' ex ex':List Addr}{H H1 H2:Hp}{h h1 h2 h':Heap}{a x e:Addr}{o:HO}
theorem Un.any(u:Un fs ex H H1 h h1){b:Addr}{ob:Obj}(q:h.get? b=some ob)(n:H b=none)(hx:b ∉ ex):∃ sl,h1.get? b=some { ob with slots:=sl }:=by
 by_cases hb:b∈fs
 ·exact u.slot b ob q n hb hx
 ·exact⟨ob.slots,u.keep b ob q n hb hx⟩
theorem Un.kept(k:∀ b u,h.get? b=some u->h'.get? b=some u):Un fs ex H H h h' :=
 ⟨fun b ob q _ _ _=>k b ob q,fun b ob q _ _ _=>⟨ob.slots,k b ob q⟩,fun _ _ _ n _=>n,fun b ob q _=>⟨ob,k b ob q⟩,fun _ _ q=>q,fun _ _ _ q=>q,fun _ ps q=>⟨#[],by rw [q];simp⟩⟩
theorem Un.refl:Un fs ex H H h h:=Un.kept fun _ _ q=>q
theorem Un.laid(k:∀ b u,h.get? b=some u->h'.get? b=some u)(hp:h.objs.size<=a)(hn:H a=none):Un fs ex H (i6 H a o) h h' where
 keep:=fun b u q _ _ _=>k b u q
 slot:=fun b u q _ _ _=>⟨u.slots,k b u q⟩
 free:=fun b u q n _=>by rw [iT (aD (ak (Heap.lt_size q) hp))];exact n
 there:=fun b u q _=>⟨u,k b u q⟩
 tups:=fun b xs q=>by rw [iT (iZ q hn)];exact q
 frzs:=fun b u xs q=>by rw [iT (iZ q hn)];exact q
 tbls:=fun b ps q=>⟨#[],by rw [iT (iZ q hn),q];simp⟩
theorem Un.write(mu:Bt (H x))(he:e=x\/H e=some (.own x))(k:∀ b u,b≠e->h.get? b=some u->h'.get? b=some u)(heo:∃ u,h'.get? e=some u):Un fs ex H (i6 H x o) h h':=by
 have hx:∀ b,H b=none->b≠x:=fun b n z=>by subst z;rw [n] at mu;exact mu
 have hb:∀ b,H b=none->b≠e:=fun b n z=>by
  subst z;rcases he with r|r
  ·exact hx b n r
  ·rw [n] at r;cases r
 have hm:∀ b u,H b=some u->¬ Bt (some u)->b≠x:=fun b u q nm z=>by subst z;rw [q] at mu;exact nm mu
 refine⟨fun b u q n _ _=>k b u (hb b n) q,fun b u q n _ _=>⟨u.slots,k b u (hb b n) q⟩,fun b u q n _=>by rw [iT (hx b n)];exact n,fun b u q _=>?_,
  fun b xs q=>by rw [iT (hm b _ q fun z=>z)];exact q,fun b u xs q=>by rw [iT (hm b _ q fun z=>z)];exact q,fun b ps q=>⟨#[],by rw [iT (hm b _ q fun z=>z),q];simp⟩⟩
 by_cases hbe:b=e
 ·subst hbe;exact heo
 ·exact⟨u,k b u hbe q⟩
end
def By(h:Heap)(H:Hp):List Addr:=(List.range h.objs.size).filter fun a=>(H a).isSome
def mB(h:Heap)(H:Hp):Heap:=PySem.W.hideAll h (By h H)
theorem sT(h:Heap)(H:Hp):(mB h H).objs.size=h.objs.size:=PySem.W.hideAll_size _ _
theorem uV{h:Heap}{H:Hp}{b:Addr}{o:Obj}(e:h.get? b=some o)(n:H b=none):(mB h H).get? b=some o :=
 PySem.W.hideAll_get _ e fun hm=>by
  have q:(H b).isSome=true:=(bc.mp hm).2;rw [n] at q;simp at q
theorem wx{h:Heap}{H:Hp}{b:Addr}{o:Obj}(e:(mB h H).get? b=some o):h.get? b=some o/\H b=none:=by
 have e':h.get? b=some o:=PySem.W.of_hideAll (By h H) e;refine⟨e',?_⟩;cases q:H b with
 | none=>rfl
 | some x =>
  have hm:b∈By h H:=bc.mpr ⟨List.mem_range.mpr (Heap.lt_size e'),by simp [q]⟩;have z:(mB h H).get? b=none:=PySem.W.hideAll_none (By h H) hm;rw [z] at e;cases e
end L2
namespace L2
open PySem PySem.Spec PyProof.Rows
structure Mod (K:Frag)(mg:Str->Option Value)(base:Heap):Prop where
 kin:K.In base
 glob:base.Ns mainGlobals mg
 blt:∃ mb,base.Ns builtinsNs mb/\∀ x:Str,x ≠ "__name__" -> mb x=bootBuiltins x
 nolimit:base.NoLimit
structure Cx where
 prog:Program
 w:World
 K:Frag
 mg:Str->Option Value
 base:Heap
 A:Around
 N:List Str
 s₀:Shared
 H₀:Hp
 env:Env
 outer:List Env
 stack:List Env
 ex:List Addr
 fn:Str->Bool
 calm:Bool
 pn:List (Addr×Obj)
 xe:Value->Shared->Prop
def pe(l:List Env):List Addr:=l.filterMap (·.frame)
abbrev Cx.fs(X:Cx):List Addr:=pe X.outer
def xp(sc:Scope)(x:Str):Prop:=sc.names.lookup x=some .local\/sc.names.lookup x=some .cell\/sc.names.lookup x=some .free
def pC(sc:Scope)(x:Str):Prop:=sc.names.lookup x=some .local\/sc.names.lookup x=some .cell
def CK(env:Env)(h:Heap)(m:Str->Option Value)(x:Str)(u:Value):Prop :=
 (env.kindOf x=some .local/\m x=some u)\/((env.kindOf x=some .cell\/env.kindOf x=some .free)/\∃ c,env.cells.lookup x=some c/\h.IsCell c (some u))
structure Cx.Ok (X:Cx):Prop where
 mod:Mod X.K X.mg X.base
 kind:X.env.scope.kind = .function
 glob:X.env.globals=mainGlobals
 blt:X.env.builtins=builtinsNs
 above:X.s₀.heap.objs.size<=X.env.locals
 inj:∀ x y c,X.env.cells.lookup x=some c->X.env.cells.lookup y=some c->x=y
 has:∀ x,(X.env.kindOf x=some .cell\/X.env.kindOf x=some .free)->∃ c,X.env.cells.lookup x=some c
 cab:∀ x c,X.fn x=true->X.env.cells.lookup x=some c->X.s₀.heap.objs.size<=c
 hd:X.calm=true->X.A.handled=none
 frames:X.A.frames=some X.stack
 stk:X.stack=X.outer\/(X.stack=X.env::X.outer/\X.env.frame=some X.env.locals)
 exf:∀ b∈X.ex,b≠X.env.locals/\∀ x c,X.env.cells.lookup x=some c->c≠b
 bs:∀ b o,X.base.get? b=some o->X.s₀.heap.get? b=some o/\X.H₀ b=none
 bsz:X.base.objs.size<=X.s₀.heap.objs.size
 noex:∀ b o,X.base.get? b=some o->b ∉ X.ex
 exfs:∀ b∈X.ex,b ∉ X.fs
 funs:X.s₀.heap.FunFrames X.base X.outer
 frf:∀ b∈X.fs,X.H₀ b=none
 sr:X.base.NoSeer/\X.prog.given.tree=none
 rn:∃ e l,X.stack=e::l/\e.scope.isGenerator=false/\e.scope.isCoroutine=false/\e.builtins=builtinsNs/\e.globals=mainGlobals
structure Inv (X:Cx)(pins:List (Addr×Obj))(σ:List (Option V))(H:Hp)(s:Shared):Prop where
 ok:X.Ok
 os:s.os=X.s₀.os
 bare:AllBare s.gens
 base:Un X.fs X.ex X.H₀ H X.s₀.heap s.heap
 loc:∃ m,s.heap.Ns X.env.locals m/\∀(i:Nat) (x:Str) (v:V),X.N[i]? = some x->σ[i]? = some (some v)->xp X.env.scope x->∃ u,RelV v u/\CK X.env s.heap m x u
 cell:∀ x c,X.env.cells.lookup x=some c->∃ v,s.heap.IsCell c v
 free:H X.env.locals=none
 freeC:∀ x c,X.env.cells.lookup x=some c->H c=none
 pin:∀ p∈X.pn++pins,s.heap.get? p.1=some p.2/\H p.1=none/\p.1≠X.env.locals/\p.1 ∉ X.fs/\∀ v,p.2.data ≠ .cell v
 hok:HOk X.prog X.w H s.heap
 len:σ.length=X.N.length
section
variable{X:Cx}{pins:List (Addr×Obj)}{σ:List (Option V)}{H H':Hp}{s:Shared}{h':Heap}
theorem Cx.Ok.nofr(ok:X.Ok){b:Addr}{o:Obj}(e:X.base.get? b=some o):b ∉ X.fs:=fun hb=>by
 have:=(ok.funs.mem hb).1;rw [e] at this;cases this
theorem Inv.bs(I:Inv X pins σ H s):∀ b o,X.base.get? b=some o->s.heap.get? b=some o/\H b=none:=fun b o e =>
 ⟨I.base.keep b o (I.ok.bs b o e).1 (I.ok.bs b o e).2 (I.ok.nofr e) (I.ok.noex b o e),I.base.free b o (I.ok.bs b o e).1 (I.ok.bs b o e).2 (I.ok.noex b o e)⟩
theorem Inv.bk(I:Inv X pins σ H s):∀ b o,X.base.get? b=some o->s.heap.get? b=some o:=fun b o e=>(I.bs b o e).1
theorem Inv.mod(I:Inv X pins σ H s):Mod X.K X.mg X.base:=I.ok.mod
theorem Inv.kIn(I:Inv X pins σ H s):X.K.In s.heap:=I.ok.mod.kin.keeps I.bk
theorem Inv.nolimit(I:Inv X pins σ H s):s.heap.NoLimit:=I.ok.mod.nolimit.keeps I.bk
theorem Inv.lt(I:Inv X pins σ H s):X.env.locals<s.heap.objs.size:=let ⟨_,hn,_⟩:=I.loc;hn.lt
theorem Inv.sz(I:Inv X pins σ H s):X.s₀.heap.objs.size<=s.heap.objs.size:=az I.ok.above (a6 I.lt)
theorem Inv.nofs(I:Inv X pins σ H s){a:Addr}(h:s.heap.objs.size<=a):a ∉ X.fs:=fun hb=>by
 obtain⟨_,o,ho,_⟩:=I.ok.funs.mem hb;exact absurd (ak (Heap.lt_size ho) (az I.sz h)) (aN _)
theorem Inv.cne(I:Inv X pins σ H s):∀ x c,X.env.cells.lookup x=some c->c≠X.env.locals:=fun x c e z=>by
 obtain⟨v,o,ho,hd⟩:=I.cell x c e;obtain⟨m,⟨o',es,ep,ho',hd',_⟩,_⟩:=I.loc;rw [z,ho'] at ho;cases ho;rw [hd'] at hd;cases hd
theorem Inv.funs(I:Inv X pins σ H s):s.heap.FunFrames X.base X.outer:=by
 have all:∀(l:List Env),(∀ b∈pe l,b∈X.fs)->X.s₀.heap.FunFrames X.base l->s.heap.FunFrames X.base l:=by
  intro l;induction l with
  | nil=>intro _ _;trivial
  | cons env r ih =>
   intro hs hl;obtain⟨hk,⟨L,o,hf,hn,ho,hd⟩,hr⟩:=hl;have hL:L∈X.fs:=hs L (by unfold pe;rw [bD,hf];exact av);obtain⟨sl,e⟩:=I.base.slot L o ho (I.ok.frf L hL) hL fun z=>I.ok.exfs L z hL;exact⟨hk,⟨L,_,hf,hn,e,hd⟩,ih (fun b hb=>hs b (by unfold pe;rw [bD,hf];exact ar _ hb)) hr⟩
 exact all X.outer (fun _ hb=>hb) I.ok.funs
theorem Inv.stack(I:Inv X pins σ H s):s.heap.FunFrames X.base X.stack:=by
 rcases I.ok.stk with e|⟨e,hf⟩
 ·rw [e];exact I.funs
 ·rw [e];obtain⟨m,hn,_⟩:=I.loc;refine .cons (by rw [I.ok.kind];decide) hf hn ?_ I.funs;exact Heap.get?_none_of_le (az I.ok.bsz I.ok.above)
theorem Inv.stkSub(I:Inv X pins σ H s):∀ b∈pe X.stack,b∈X.env.locals::X.fs:=fun b hb=>by
 rcases I.ok.stk with e|⟨e,hf⟩
 ·rw [e] at hb;exact ar _ hb
 ·rw [e] at hb;unfold pe at hb;rw [bD,hf] at hb;exact hb
theorem Inv.stkFree(I:Inv X pins σ H s):∀ b∈pe X.stack,H b=none:=fun b hb=>by
 rcases ah.mp (I.stkSub b hb) with e|hb
 ·rw [e];exact I.free
 ·obtain⟨_,o,ho,_⟩:=I.ok.funs.mem hb;exact I.base.free b o ho (I.ok.frf b hb) fun z=>I.ok.exfs b z hb
theorem Inv.step{g':Array GenState}{t':Nat}{d':Drawn}{ch:List Addr}(I:Inv X pins σ H s)
  (hch:∀ b∈ch,(b∈X.ex\/X.s₀.heap.objs.size<=b)/\b≠X.env.locals/\(∀ x c,X.env.cells.lookup x=some c->c≠b)/\∀ p∈X.pn++pins,p.1≠b)
  (keep:∀ b o,b≠X.env.locals->b ∉ X.fs->b ∉ ch->s.heap.get? b=some o->H b=none->h'.get? b=some o)
  (slot:∀ b o,b≠X.env.locals->b∈X.fs->b ∉ ch->s.heap.get? b=some o->H b=none->∃ sl,h'.get? b=some { o with slots:=sl }) (free:∀ b o,b ∉ ch->s.heap.get? b=some o->H b=none->H' b=none)
  (there:∀ b o,b ∉ ch->s.heap.get? b=some o->∃ o',h'.get? b=some o')
  (tups:∀ b xs,H b=some (.tup xs)->H' b=some (.tup xs)) (frzs:∀ b o u,H b=some (.frz o u)->H' b=some (.frz o u)) (tbls:∀ b ps,H b=some (.tbl ps)->∃ more,H' b=some (.tbl (ps++more)))
  (ns:∀ m,s.heap.Ns X.env.locals m->h'.Ns X.env.locals m) (hok:HOk X.prog X.w H' h') (hg:AllBare g') :
  Inv X pins σ H' { s with heap:=h',gens:=g',drawn:=d',toks:=t' }:=by
 have neL:∀ b o,X.s₀.heap.get? b=some o->b≠X.env.locals:=fun b o e=>aD (ak (Heap.lt_size e) I.ok.above);have neC:∀ b o,X.s₀.heap.get? b=some o->b ∉ X.ex->b ∉ ch:=fun b o e hx hb=>by
  rcases (hch b hb).1 with z|z
  ·exact hx z
  ·exact absurd (ak (Heap.lt_size e) z) (aN _)
 have cellK:∀ x c,X.env.cells.lookup x=some c->∀ v,s.heap.IsCell c v->h'.IsCell c v:=fun x c e v ⟨o,ho,hd⟩=>by
  have nch:c ∉ ch:=fun z=>(hch c z).2.2.1 x c e rfl;by_cases hc:c∈X.fs
  ·obtain⟨sl,q⟩:=slot c o (I.cne x c e) hc nch ho (I.freeC x c e);exact⟨_,q,hd⟩
  ·exact⟨o,keep c o (I.cne x c e) hc nch ho (I.freeC x c e),hd⟩
 refine⟨I.ok,I.os,hg,⟨fun b o e n hb hx=>?_,fun b o e n hb hx=>?_,fun b o e n hx=>?_,fun b o e hx=>?_,fun b xs e=>tups b xs (I.base.tups b xs e),fun b o xs e=>frzs b o xs (I.base.frzs b o xs e),fun b ps e=>?_⟩,?_,fun x c e=>?_,?_,fun x c e=>?_,fun p hp=>?_,hok,I.len⟩
 ·exact keep b o (neL b o e) hb (neC b o e hx) (I.base.keep b o e n hb hx) (I.base.free b o e n hx)
 ·obtain⟨sl,e1⟩:=I.base.slot b o e n hb hx;obtain⟨sl',e2⟩:=slot b _ (neL b o e) hb (neC b o e hx) e1 (I.base.free b o e n hx);exact⟨sl',e2⟩
 ·obtain⟨o',e1⟩:=I.base.there b o e hx;exact free b o' (neC b o e hx) e1 (I.base.free b o e n hx)
 ·obtain⟨o',e1⟩:=I.base.there b o e hx;exact there b o' (neC b o e hx) e1
 ·obtain⟨m1,e1⟩:=I.base.tbls b ps e;obtain⟨m2,e2⟩:=tbls b _ e1;exact⟨m1++m2,by rw [e2,Array.append_assoc]⟩
 ·obtain⟨m,hn,hl⟩:=I.loc;refine⟨m,ns m hn,fun i x v e1 e2 e3=>?_⟩;obtain⟨u,r,l⟩:=hl i x v e1 e2 e3;refine⟨u,r,?_⟩;rcases l with l|⟨k,c,e,z⟩
  ·exact .inl l
  ·exact .inr ⟨k,c,e,cellK x c e _ z⟩
 ·obtain⟨v,z⟩:=I.cell x c e;exact⟨v,cellK x c e v z⟩
 ·obtain⟨m,⟨o,_,_,ho,_⟩,_⟩:=I.loc;exact free _ o (fun z=>(hch _ z).2.1 rfl) ho I.free
 ·obtain⟨v,o,ho,hd⟩:=I.cell x c e;exact free c o (fun z=>(hch c z).2.2.1 x c e rfl) ho (I.freeC x c e)
 ·obtain⟨e,n,ne,nf,d⟩:=I.pin p hp;have nch:p.1 ∉ ch:=fun z=>(hch p.1 z).2.2.2 p hp rfl;exact⟨keep p.1 p.2 ne nf nch e n,free p.1 p.2 nch e n,ne,nf,d⟩
theorem Inv.un{t':Nat}(I:Inv X pins σ H s)(u:Un X.fs [] H H' s.heap h')(hok:HOk X.prog X.w H' h'):Inv X pins σ H' { s with heap:=h',toks:=t' }:=by
 obtain⟨m,⟨o,es,ep,ho,r⟩,_⟩:=id I.loc;obtain⟨sl,hL⟩:=u.any ho I.free (by simp);exact I.step (g':=s.gens) (d':=s.drawn) (ch:=[]) (fun _ z=>nomatch z) (fun b o _ hb _ e n=>u.keep b o e n hb (by simp)) (fun b o _ hb _ e n=>u.slot b o e n hb (by simp)) (fun b o _ e n=>u.free b o e n (by simp)) (fun b o _ e=>u.there b o e (by simp)) u.tups u.frzs u.tbls (fun m' hm=>by
  obtain⟨o',es',ep',ho',r'⟩:=hm;rw [ho] at ho';cases ho';exact⟨_,es',ep',hL,r'⟩) hok I.bare
theorem Inv.call{g':Array GenState}{t':Nat}{d':Drawn}{ch:List Addr}(I:Inv X pins σ H s)(u:Un (pe X.stack) ch H H' s.heap h')(hok:HOk X.prog X.w H' h')(hg:AllBare g')
  (hch:∀ b∈ch,(b∈X.ex\/X.s₀.heap.objs.size<=b)/\b≠X.env.locals/\(∀ x c,X.env.cells.lookup x=some c->c≠b)/\∀ p∈X.pn++pins,p.1≠b) :
  Inv X pins σ H' { s with heap:=h',gens:=g',drawn:=d',toks:=t' }:=by
 obtain⟨m,⟨o,es,ep,ho,r⟩,_⟩:=id I.loc;obtain⟨sl,hL⟩:=u.any ho I.free fun z=>(hch _ z).2.1 rfl;exact I.step (ch:=ch) hch (fun b o hL hb hc e n=>u.keep b o e n (fun z=>(ah.mp (I.stkSub b z)).elim hL hb) hc) (fun b o _ _ hc e n=>u.any e n hc) (fun b o hc e n=>u.free b o e n hc) (fun b o hc e=>u.there b o e hc) u.tups u.frzs u.tbls (fun m' hm=>by
  obtain⟨o',es',ep',ho',r'⟩:=hm;rw [ho] at ho';cases ho';exact⟨_,es',ep',hL,r'⟩) hok hg
theorem Inv.turned{t':Nat}{it:Addr}(I:Inv X pins σ H s)(k:∀ b o,b≠it->s.heap.get? b=some o->h'.get? b=some o)(hn:H it=none)(hL:it≠X.env.locals)
  (h1:it∈X.ex\/X.s₀.heap.objs.size<=it) (h2:∀ x c,X.env.cells.lookup x=some c->c≠it) (h3:∀ p∈X.pn++pins,p.1≠it):Inv X pins σ H { s with heap:=h',toks:=t' }:=by
 have nit:∀ b u,H b=some u->b≠it:=fun b u e z=>by rw [z,hn] at e;cases e
 refine I.step (g':=s.gens) (d':=s.drawn) (ch:=[it]) (fun b hb=>?_) (fun b o _ _ hc e _=>k b o (fun z=>hc (by simp [z])) e) (fun b o _ _ hc e _=>⟨o.slots,k b o (fun z=>hc (by simp [z])) e⟩) (fun _ _ _ _ n=>n)
  (fun b o hc e=>⟨o,k b o (fun z=>hc (by simp [z])) e⟩) (fun _ _ e=>e) (fun _ _ _ e=>e) (fun b ps e=>⟨#[],by rw [e];simp⟩) (fun m hm=>?_) (fun b u e=>?_) I.bare
 ·have e:b=it:=by simpa using hb
  subst e;exact⟨h1,hL,h2,h3⟩
 ·obtain⟨o,es,ep,ho,r⟩:=hm;exact⟨o,es,ep,k _ o (Ne.symm hL) ho,r⟩
 ·refine (I.hok b u e).stay (fun c v hc q=>k c v ?_ q) (fun _ q=>q) fun _ _ q=>q;rcases hc with z|z
  ·rw [z];exact nit b u e
  ·exact nit c _ z
theorem Inv.tok(I:Inv X pins σ H s)(t:Nat):Inv X pins σ H { s with toks:=t }:=I.un (h':=s.heap) (t':=t) Un.refl I.hok
theorem Inv.kept{t':Nat}(I:Inv X pins σ H s)(k:∀ b u,s.heap.get? b=some u->h'.get? b=some u):Inv X pins σ H { s with heap:=h',toks:=t' }:=I.un (Un.kept k) (I.hok.kept k)
theorem Inv.laid{a:Addr}{o:HO}{t':Nat}(I:Inv X pins σ H s)(k:∀ b u,s.heap.get? b=some u->h'.get? b=some u)(hp:s.heap.objs.size<=a)(new:ObjOk X.prog X.w (i6 H a o) h' a o) :
  Inv X pins σ (i6 H a o) { s with heap:=h',toks:=t' }:=I.un (Un.laid k hp (I.hok.fresh hp)) (I.hok.laid k hp new)
theorem Inv.write{x e:Addr}{o:HO}{t':Nat}(I:Inv X pins σ H s)(mu:Bt (H x))(he:e=x\/H e=some (.own x))(k:∀ b u,b≠e->s.heap.get? b=some u->h'.get? b=some u)(heo:∃ u,h'.get? e=some u)
  (new:ObjOk X.prog X.w (i6 H x o) h' x o):Inv X pins σ (i6 H x o) { s with heap:=h',toks:=t' }:=I.un (Un.write mu he k heo) (I.hok.write mu he k heo new)
theorem Inv.pins_of{pins':List (Addr×Obj)}(I:Inv X pins σ H s)(h:∀ p∈pins',s.heap.get? p.1=some p.2/\H p.1=none/\p.1≠X.env.locals/\p.1 ∉ X.fs/\∀ v,p.2.data ≠ .cell v):Inv X pins' σ H s :=
 ⟨I.ok,I.os,I.bare,I.base,I.loc,I.cell,I.free,I.freeC,fun p hp=>(bd.mp hp).elim (fun z=>I.pin p (cJ _ z)) (h p),I.hok,I.len⟩
theorem lZ{N:List Str}(hN:N.Nodup){i j:Nat}{x:Str}(a:N[i]? = some x)(b:N[j]? = some x):i=j:=by
 obtain⟨h1,e1⟩:=aq.mp a;obtain⟨h2,e2⟩:=aq.mp b;exact (List.getElem_inj hN).mp (e1.trans e2.symm)
theorem mH{M:Model}{A:Around}{E:Value->Shared->Prop}{i:Nat}{x:Str}{v:V}{u:Value}{Q:Unit->Shared->Prop}(I:Inv X pins σ H s)(hN:X.N.Nodup)(hi:X.N[i]? = some x)(hx:pC X.env.scope x)(r:RelV v u)
  (h:∀ s',Inv X pins (σ.set i (some v)) H s'->(∃ a,Heap.SameBut a s.heap s'.heap/\(a=X.env.locals\/X.env.cells.lookup x=some a))->Q () s') (hf:X.fn x=true\/X.env.scope.names.lookup x=some .local:=by first|exact .inl rfl|exact .inr rfl|assumption):wpAny M A (storeName X.env x u) Q E s:=by
 obtain⟨m,hn,hl⟩:=id I.loc;have hcls:(X.env.scope.kind == .class || (X.env.scope.kind == .module && X.env.locals != X.env.globals))=false:=by rw [I.ok.kind];rfl
 have hiσ:i<σ.length:=by rw [I.len];exact (aq.mp hi).1
 have cne:=I.cne;have tracked:∀{a:Addr} {h':Heap},(∃ o,s.heap.get? a=some o/\H a=none)->Heap.SameBut a s.heap h'->HOk X.prog X.w H h':=fun {a h'} ha hs b ob e=>by
  obtain⟨_,_,hfree⟩:=ha;refine (I.hok b ob e).stay (fun c w' hc q=>(hs.2 c ?_).trans q) (fun _ q=>q) fun _ _ q=>q;rintro rfl;rcases hc with rfl|hc
  ·rw [hfree] at e;cases e
  ·rw [hfree] at hc;cases hc
 rcases hx with hk|hk
 ·refine wpAny_storeName_local hk hn (fun h' hn' hs=>?_) hcls;obtain⟨oL,_,_,hoL,_⟩:=id hn;refine h _ ⟨I.ok,I.os,I.bare,⟨fun b o e n hb hx=>?_,fun b o e n hb hx=>?_,I.base.free,fun b o e hx=>?_,I.base.tups,I.base.frzs,I.base.tbls⟩,⟨_,hn',fun j y v' e1 e2 e3=>?_⟩,fun y c e=>?_,I.free,I.freeC,fun p hp=>?_,tracked ⟨oL,hoL,I.free⟩ hs,by simpa using I.len⟩ ⟨_,hs,.inl rfl⟩
  ·exact (hs.2 b (aD (ak (Heap.lt_size e) I.ok.above))).trans (I.base.keep b o e n hb hx)
  ·obtain⟨sl,e1⟩:=I.base.slot b o e n hb hx;exact⟨sl,(hs.2 b (aD (ak (Heap.lt_size e) I.ok.above))).trans e1⟩
  ·obtain⟨o',e1⟩:=I.base.there b o e hx;exact⟨o',(hs.2 b (aD (ak (Heap.lt_size e) I.ok.above))).trans e1⟩
  ·by_cases hj:j=i
   ·subst hj;rw [hi] at e1;cases e1;rw [br hiσ] at e2;cases e2;exact⟨u,r,.inl ⟨hk,by simp⟩⟩
   ·rw [ax (Ne.symm hj)] at e2;obtain⟨u',r',q⟩:=hl j y v' e1 e2 e3;refine⟨u',r',?_⟩;rcases q with⟨k,e⟩|⟨k,c,e,z⟩
    ·refine .inl ⟨k,?_⟩;have:y≠x:=fun e=>hj (lZ hN e1 (e ▸ hi));simp [this,e]
    ·exact .inr ⟨k,c,e,z.sameBut hs (cne y c e)⟩
  ·obtain⟨w',z⟩:=I.cell y c e;exact⟨w',z.sameBut hs (cne y c e)⟩
  ·obtain⟨e,n,ne,nf,d⟩:=I.pin p hp;exact⟨(hs.2 p.1 ne).trans e,n,ne,nf,d⟩
 ·have hfn:X.fn x=true:=by
   rcases hf with z|z
   ·exact z
   ·rw [z] at hk;cases hk
  obtain⟨c,hc⟩:=I.ok.has x (.inl hk);obtain⟨w',z⟩:=I.cell x c hc;refine wpAny_storeName_cell I.ok.kind hk hc z (fun h' hc' hs=>?_);obtain⟨oc,hoc,hocd⟩:=id z;refine h { s with heap:=h' } ⟨I.ok,I.os,I.bare,⟨fun b o e n hb hx=>?_,fun b o e n hb hx=>?_,I.base.free,fun b o e hx=>?_,I.base.tups,I.base.frzs,I.base.tbls⟩,⟨m,hn.sameBut hs (Ne.symm (cne x c hc)),fun j y v' e1 e2 e3=>?_⟩,fun y c' e=>?_,I.free,I.freeC,fun p hp=>?_,tracked ⟨oc,hoc,I.freeC x c hc⟩ hs,by simpa using I.len⟩ ⟨c,hs,.inr hc⟩
  ·exact (hs.2 b (aD (ak (Heap.lt_size e) (I.ok.cab x c hfn hc)))).trans (I.base.keep b o e n hb hx)
  ·obtain⟨sl,e1⟩:=I.base.slot b o e n hb hx;exact⟨sl,(hs.2 b (aD (ak (Heap.lt_size e) (I.ok.cab x c hfn hc)))).trans e1⟩
  ·obtain⟨o',e1⟩:=I.base.there b o e hx;exact⟨o',(hs.2 b (aD (ak (Heap.lt_size e) (I.ok.cab x c hfn hc)))).trans e1⟩
  ·by_cases hj:j=i
   ·subst hj;rw [hi] at e1;cases e1;rw [br hiσ] at e2;cases e2;exact⟨u,r,.inr ⟨.inl hk,c,hc,hc'⟩⟩
   ·rw [ax (Ne.symm hj)] at e2;obtain⟨u',r',q⟩:=hl j y v' e1 e2 e3;refine⟨u',r',?_⟩;rcases q with q|⟨k,c',e,z'⟩
    ·exact .inl q
    ·refine .inr ⟨k,c',e,z'.sameBut hs ?_⟩;rintro rfl;exact hj (lZ hN e1 (I.ok.inj _ _ _ e hc ▸ hi))
  ·by_cases hcc:c'=c
   ·subst hcc;exact⟨_,hc'⟩
   ·obtain⟨w2,z2⟩:=I.cell y c' e;exact⟨w2,z2.sameBut hs hcc⟩
  ·obtain⟨e,n,ne,nf,d⟩:=I.pin p hp;refine⟨(hs.2 p.1 ?_).trans e,n,ne,nf,d⟩;intro q;rw [q,hoc] at e;have q':oc=p.2:=Option.some.inj e;exact d w' (by rw [← q'];exact hocd)
theorem jE{M:Model}{A:Around}{E:Value->Shared->Prop}{i:Nat}{x:Str}{v:V}{u:Value}{Q:Unit->Shared->Prop}(I:Inv X pins σ H s)(hN:X.N.Nodup)(hi:X.N[i]? = some x)(hx:pC X.env.scope x)(r:RelV v u)
  (h:∀ s',Inv X pins (σ.set i (some v)) H s'->Q () s') (hf:X.fn x=true\/X.env.scope.names.lookup x=some .local:=by first|exact .inl rfl|exact .inr rfl|assumption):wpAny M A (storeName X.env x u) Q E s :=
 mH I hN hi hx r (fun s' I' _=>h s' I') hf
theorem Inv.call'{s':Shared}{ch:List Addr}(I:Inv X pins σ H s)(ho:s'.os=s.os)(u:Un (pe X.stack) ch H H' s.heap s'.heap)(hok:HOk X.prog X.w H' s'.heap)(hg:AllBare s'.gens)
  (hch:∀ b∈ch,(b∈X.ex\/X.s₀.heap.objs.size<=b)/\b≠X.env.locals/\(∀ x c,X.env.cells.lookup x=some c->c≠b)/\∀ p∈X.pn++pins,p.1≠b):Inv X pins σ H' s':=by
 obtain⟨h',g',d',t',o'⟩:=s';have e:o'=s.os:=ho;subst e;exact I.call (g':=g') (t':=t') (d':=d') u hok hg hch
end
abbrev XK:=Value->Option Addr->Hp->Prop
abbrev St:=List (Option V)
abbrev VK:=V->Hp->Prop
abbrev TE:=St->Hp->VK->Prop
abbrev TT:=St->Hp->(Bool->Hp->Prop)->Prop
abbrev TA:=St->Hp->(List V->Hp->Prop)->Prop
structure Ends where
 nx:St->Hp->Prop
 rt:VK
 bk:St->Hp->Prop:=fun _ _=>False
 ct:St->Hp->Prop:=fun _ _=>False
abbrev TS:=Ends->St->Hp->Prop
def EP(X:Cx)(pins:List (Addr×Obj))(σ:St)(Q:VK)(u:Value)(s':Shared):Prop:=∃ v H',Inv X pins σ H' s'/\RelV v u/\Q v H'
def TP(X:Cx)(pins:List (Addr×Obj))(σ:St)(Q:Bool->Hp->Prop)(b:Bool)(s':Shared):Prop:=∃ H',Inv X pins σ H' s'/\Q b H'
def AP(X:Cx)(pins:List (Addr×Obj))(σ:St)(Q:List V->Hp->Prop)(us:List Value)(s':Shared):Prop:=∃ vs H',Inv X pins σ H' s'/\Vals vs us/\Q vs H'
def SP(X:Cx)(pins:List (Addr×Obj))(D:Ends)(f:Flow)(s':Shared):Prop :=
 match f with
 | .next=>∃ σ' H',Inv X pins σ' H' s'/\D.nx σ' H'
 | .brk=>∃ σ' H',Inv X pins σ' H' s'/\D.bk σ' H'
 | .cont=>∃ σ' H',Inv X pins σ' H' s'/\D.ct σ' H'
 | .ret u=>∃ v σ' H',Inv X pins σ' H' s'/\RelV v u/\D.rt v H'
def PE(X:Cx)(e:Expr)(t:TE):Prop :=
 ∀(pins:List (Addr×Obj)) (s:Shared) (σ:St) (H:Hp) (Q:VK),Inv X pins σ H s->t σ H Q->wpAny (model X.prog X.w) X.A (eval e X.env) (EP X pins σ Q) X.xe s
def PT(X:Cx)(e:Expr)(t:TT):Prop :=
 ∀(pins:List (Addr×Obj)) (s:Shared) (σ:St) (H:Hp) (Q:Bool->Hp->Prop),Inv X pins σ H s->t σ H Q->wpAny (model X.prog X.w) X.A (isTrue e X.env (eval e X.env)) (TP X pins σ Q) X.xe s
def PW(X:Cx)(e:Expr)(t:TT):Prop :=
 ∀(whole:Sem Value) (pins:List (Addr×Obj)) (s:Shared) (σ:St) (H:Hp) (Q:Bool->Hp->Prop),Inv X pins σ H s->t σ H Q->wpAny (model X.prog X.w) X.A (isTrue e X.env whole) (TP X pins σ Q) X.xe s
theorem PW.pt{X:Cx}{e:Expr}{t:TT}(h:PW X e t):PT X e t:=h _
def PA(X:Cx)(es:List Expr)(t:TA):Prop :=
 ∀(pos:Pos) (pins:List (Addr×Obj)) (s:Shared) (σ:St) (H:Hp) (Q:List V->Hp->Prop),Inv X pins σ H s->t σ H Q->wpAny (model X.prog X.w) X.A (spliced (backTo pos (starEach es X.env))) (AP X pins σ Q) X.xe s
def PS(X:Cx)(st:Stmt)(t:TS):Prop :=
 ∀(pins:List (Addr×Obj)) (s:Shared) (σ:St) (H:Hp) (D:Ends),Inv X pins σ H s->t D σ H->wpAny (model X.prog X.w) X.A (exec st X.env) (SP X pins D) X.xe s
def PSs(X:Cx)(st:List Stmt)(t:TS):Prop :=
 ∀(pins:List (Addr×Obj)) (s:Shared) (σ:St) (H:Hp) (D:Ends),Inv X pins σ H s->t D σ H->wpAny (model X.prog X.w) X.A (execs st X.env) (SP X pins D) X.xe s
theorem ja{α:Type}{t:Sem α}{Q Q':α->Shared->Prop}{M:Model}{A:Around}{E:Value->Shared->Prop}{s:Shared}(h:wpAny M A t Q E s)(hQ:∀ a s,Q a s->Q' a s):wpAny M A t Q' E s:=wpAny_mono h hQ fun _ _ x=>x
end L2
namespace L2
open PySem PySem.Spec PyProof.Rows
section
variable{X:Cx}
def jO(i:Nat):TE:=fun σ H Q=>∃ v,σ[i]? = some (some v)/\Q v H
def tC(v:V):TE:=fun _ H Q=>Q v H
theorem lW{i:Nat}{x:Str}{pos:Pos}(hN:X.N[i]? = some x)(hv:xp X.env.scope x)(hd:(x == ("__debug__" : Str))=false:=by decide)(hcd:(x == ("__classdict__" : Str))=false:=by decide):PE X (.Name x pos) (jO i):=by
 intro pins s σ H Q I h;obtain⟨v,e,h⟩:=h;obtain⟨m,hn,hl⟩:=I.loc;obtain⟨u,r,l⟩:=hl i x v hN e hv;have fin:EP X pins σ Q u s:=⟨v,H,I,r,h⟩;rcases l with⟨hk,hm⟩|⟨hk,c,hc,hcell⟩
 ·exact wpAny_Name (wpAny_loadName_local I.ok.kind hk hn hm fin) hd
 ·rcases hk with hk|hk
  ·exact wpAny_Name (wpAny_loadName_cell I.ok.kind hk hc hcell fin) hd
  ·exact wpAny_Name (wpAny_loadName_free I.ok.kind hk hc hcell fin hcd) hd
theorem iV{i j pos}:PE X (.Constant (.int i) j pos) (tC (.int i)):=fun _ _ _ H _ I h=>wpAny_Constant_int ⟨.int i,H,I.tok _,⟨_,rfl⟩,h⟩
theorem uh{b j pos}:PE X (.Constant (.bool b) j pos) (tC (.bl b)):=fun _ _ _ H _ I h=>Constant_bool ⟨.bl b,H,I,rfl,h⟩
theorem yL{j pos}:PE X (.Constant .none j pos) (tC .non):=fun _ _ _ H _ I h=>Constant_none ⟨.non,H,I,rfl,h⟩
theorem nF{x j pos}:PE X (.Constant (.str x) j pos) (tC (.str x)):=fun _ _ _ H _ I h=>Calls.Constant_str ⟨.str x,H,I.tok _,⟨_,rfl⟩,h⟩
def Gl(X:Cx)(x:Str):Prop:=X.env.kindOf x=some .globalImplicit
theorem kj{E:Value->Shared->Prop}{pins:List (Addr×Obj)}{s:Shared}{σ:St}{H:Hp}{x:Str}{u:Value}{pos:Pos}{Q:Value->Shared->Prop}(I:Inv X pins σ H s)(hg:Gl X x)(hm:X.mg x=some u)(h:Q u s)
  (hd:(x == ("__debug__" : Str))=false:=by decide):wpAny (model X.prog X.w) X.A (eval (.Name x pos) X.env) Q E s :=
 Calls.Name_function_global I.ok.kind hg (Calls.loadGlobal_global (by rw [I.ok.glob];exact I.mod.glob.keeps I.bk) hm h) hd
theorem j7{E:Value->Shared->Prop}{pins:List (Addr×Obj)}{s:Shared}{σ:St}{H:Hp}{x:Str}{u:Value}{pos:Pos}{Q:Value->Shared->Prop}(I:Inv X pins σ H s)(hg:Gl X x)(hm:X.mg x=none)(hv:bootBuiltins x=some u)(h:Q u s)
  (hn:x ≠ "__name__" := by decide) (hd:(x == ("__debug__" : Str))=false:=by decide):wpAny (model X.prog X.w) X.A (eval (.Name x pos) X.env) Q E s:=by
 obtain⟨mb,h1,h2⟩:=I.mod.blt;exact Calls.Name_function_global I.ok.kind hg (Calls.loadGlobal_builtin (by rw [I.ok.glob];exact I.mod.glob.keeps I.bk) hm (by rw [I.ok.blt];exact h1.keeps I.bk) ((h2 x hn).trans hv) h) hd
theorem nG{x:Str}{v:V}{u:Value}{pos:Pos}(hg:Gl X x)(hm:X.mg x=some u)(r:RelV v u)(hd:(x == ("__debug__" : Str))=false:=by decide):PE X (.Name x pos) (tC v) :=
 fun _ _ _ H _ I h=>kj I hg hm ⟨v,H,I,r,h⟩ hd
theorem jx{x:Str}{v:V}{u:Value}{pos:Pos}(hg:Gl X x)(hm:X.mg x=none)(hv:bootBuiltins x=some u)(r:RelV v u)(hn:x ≠ "__name__" := by decide)(hd:(x == ("__debug__" : Str))=false:=by decide):PE X (.Name x pos) (tC v) :=
 fun _ _ _ H _ I h=>j7 I hg hm hv ⟨v,H,I,r,h⟩ hn hd
def Dk(ta tb:TE)(k:Int->Int->Hp->Prop):St->Hp->Prop:=fun σ H=>ta σ H fun x H1=>tb σ H1 fun y H2=>∃ i j,x = .int i/\y = .int j/\k i j H2
variable{a b:Expr}{ta tb:TE}{pos:Pos}
def Di(p:Int->Int->Bool)(ta tb:TE):TE:=fun σ H Q=>Dk ta tb (fun i j H2=>Q (.bl (p i j)) H2) σ H
variable{tA tB':TT}{rest:List Expr}
def Ap(t u:TT):TT:=fun σ H Q=>t σ H fun c H1=>if c=true then u σ H1 Q else Q false H1
def CT(t u:TT):TT:=fun σ H Q=>t σ H fun c H1=>if c=true then Q true H1 else u σ H1 Q
def BU(t:TT):TT:=fun σ H Q=>t σ H fun c H1=>Q (!c) H1
theorem qR(ha:PT X a tA):PW X (.BoolOp .And [a] pos) tA:=by
 intro wh pins s σ H Q I h;refine isTrue_and (ja (ha pins s σ H Q I h) fun c s1 e=>?_);cases c with
 | true=>exact isTrue_and_nil e
 | false=>exact e
theorem yF(ha:PT X a tA):PW X (.BoolOp .Or [a] pos) tA:=by
 intro wh pins s σ H Q I h;refine isTrue_or (ja (ha pins s σ H Q I h) fun c s1 e=>?_);cases c with
 | false=>exact isTrue_or_nil e
 | true=>exact e
theorem tZ(ha:PT X a tA)(hb:PW X (.BoolOp .And (b::rest) pos) tB'):PW X (.BoolOp .And (a::b::rest) pos) (Ap tA tB'):=by
 intro wh pins s σ H Q I h;refine isTrue_and (ja (ha pins s σ H _ I h) fun c s1 ⟨H1,I1,q1⟩=>?_);cases c with
 | true=>exact hb wh pins s1 σ H1 Q I1 q1
 | false=>exact⟨H1,I1,q1⟩
theorem AJ(ha:PT X a tA)(hb:PW X (.BoolOp .Or (b::rest) pos) tB'):PW X (.BoolOp .Or (a::b::rest) pos) (CT tA tB'):=by
 intro wh pins s σ H Q I h;refine isTrue_or (ja (ha pins s σ H _ I h) fun c s1 ⟨H1,I1,q1⟩=>?_);cases c with
 | true=>exact⟨H1,I1,q1⟩
 | false=>exact hb wh pins s1 σ H1 Q I1 q1
theorem yG(ha:PT X a tA):PT X (.UnaryOp .Not a pos) (BU tA):=by
 intro pins s σ H Q I h;exact isTrue_not (ha pins s σ H (fun c H1=>Q (!c) H1) I h)
def Ao(ta tb:TE):TE:=fun σ H Q=>ta σ H fun x H1=>∃ c,x = .bl c/\if c=true then tb σ H1 Q else Q (.bl false) H1
def BT(ta tb:TE):TE:=fun σ H Q=>ta σ H fun x H1=>∃ c,x = .bl c/\if c=true then Q (.bl true) H1 else tb σ H1 Q
def Ak(ta:TE):TE:=fun σ H Q=>ta σ H fun x H1=>∃ c,x = .bl c/\Q (.bl (!c)) H1
theorem pU{op}{t:TE}(h:PE X a t):PE X (.BoolOp op [a] pos) t:=fun pins s σ H Q I hw=>BoolOp_one (h pins s σ H Q I hw)
theorem pW(ha:PE X a ta)(hb:PE X (.BoolOp .And (b::rest) pos) tb):PE X (.BoolOp .And (a::b::rest) pos) (Ao ta tb):=by
 intro pins s σ H Q I h;refine BoolOp_and (ja (ha pins s σ H _ I h) fun v s1 ⟨x,H1,I1,r1,q1⟩=>?_);obtain⟨c,rfl,q1⟩:=q1;cases r1;refine wpAny_truthy_bool ?_;cases c with
 | true=>exact hb pins s1 σ H1 Q I1 q1
 | false=>exact⟨.bl false,H1,I1,rfl,q1⟩
theorem AL(ha:PE X a ta)(hb:PE X (.BoolOp .Or (b::rest) pos) tb):PE X (.BoolOp .Or (a::b::rest) pos) (BT ta tb):=by
 intro pins s σ H Q I h;refine BoolOp_or (ja (ha pins s σ H _ I h) fun v s1 ⟨x,H1,I1,r1,q1⟩=>?_);obtain⟨c,rfl,q1⟩:=q1;cases r1;refine wpAny_truthy_bool ?_;cases c with
 | false=>exact hb pins s1 σ H1 Q I1 q1
 | true=>exact⟨.bl true,H1,I1,rfl,q1⟩
theorem yK(ha:PE X a ta):PE X (.UnaryOp .Not a pos) (Ak ta):=by
 intro pins s σ H Q I h;refine UnaryOp_ (ja (ha pins s σ H _ I h) fun v s1 ⟨x,H1,I1,r1,q1⟩=>?_);obtain⟨c,rfl,q1⟩:=q1;cases r1;exact not_of (wpAny_truthy_bool ⟨.bl (!c),H1,I1,rfl,q1⟩)
def Dh(t:TT)(ta tb:TE):TE:=fun σ H Q=>t σ H fun c H1=>if c=true then ta σ H1 Q else tb σ H1 Q
theorem ue{c:Expr}(hc:PT X c tA)(ha:PE X a ta)(hb:PE X b tb):PE X (.IfExp c a b pos) (Dh tA ta tb):=by
 intro pins s σ H Q I h;refine wpAny_IfExp (ja (hc pins s σ H _ I h) fun d s1 ⟨H1,I1,q1⟩=>?_);cases d with
 | true=>exact ha pins s1 σ H1 Q I1 q1
 | false=>exact hb pins s1 σ H1 Q I1 q1
end
end L2
namespace L2
open PySem PySem.Spec PyProof.Rows
def SqL(K:Frag)(H:Hp)(a:Addr)(xs:List V):Prop :=
 Rd H a (.lst xs) \/
  ∃(o:Obj) (its:Array Value) (n:Nat),K.lookup a=some o/\o.cls = .type "list" /\ o.dict=none/\o.data = .seq its n/\its.size<=sizeLine/\Vals xs its.toList
def SqT(K:Frag)(H:Hp)(a:Addr)(xs:List V):Prop :=
 Rd H a (.tup xs) \/
  ∃(o:Obj) (its:Array Value) (n:Nat),K.lookup a=some o/\o.cls = .type "tuple" /\ o.data = .seq its n/\its.size<=sizeLine/\Vals xs its.toList
def CG:Value->Option V
 | .none=>some .non
 | .bool b=>some (.bl b)
 | .int i _=>some (.int i)
 | .str x _=>some (.str x)
 | .bytes b _=>some (.byt b)
 | .float b _=>some (.flt b)
 | .ref a=>some (.ref a)
 | .type n=>some (.ty n)
 | _=>none
theorem RelV.abs{x:V}{u:Value}(r:RelV x u):CG u=some x:=by
 cases x with
 | non=>cases r;rfl
 | bl _=>cases r;rfl
 | int _=>obtain⟨t,rfl⟩:=r;rfl
 | str _=>obtain⟨t,rfl⟩:=r;rfl
 | byt _=>obtain⟨t,rfl⟩:=r;rfl
 | flt _=>obtain⟨t,rfl⟩:=r;rfl
 | ref _=>cases r;rfl
 | ty _=>cases r;rfl
theorem RelV.inj{x y:V}{u:Value}(r:RelV x u)(q:RelV y u):x=y:=Option.some.inj (r.abs.symm.trans q.abs)
theorem Vals.inj:∀{xs ys:List V} {us:List Value},Vals xs us->Vals ys us->xs=ys
 | _,_,_,.nil,.nil=>rfl
 | _,_,_,.cons r t,.cons r' t'=>by rw [r.inj r',Vals.inj t t']
section
variable{X:Cx}{pins:List (Addr×Obj)}{σ:St}{H:Hp}{s:Shared}{a:Addr}{xs ys:List V}
theorem SqL.of{K:Frag}(h:H a=some (.lst xs)):SqL K H a xs:=.inl (.inl h)
theorem SqT.of{K:Frag}(h:H a=some (.tup xs)):SqT K H a xs:=.inl (.inl h)
theorem Inv.list(I:Inv X pins σ H s)(h:SqL X.K H a xs):∃ its:List Value,Vals xs its/\PlainL s.heap a its.toArray/\xs.length<=sizeLine:=by
 rcases h with h|⟨o,its,n,hk,hc,hd,hs,hz,r⟩
 ·obtain⟨z,its,n,r,e⟩:=h.ok I.hok;exact⟨its,r,⟨_,n,e,rfl,rfl,rfl⟩,z⟩
 ·refine⟨its.toList,r,⟨o,n,I.kIn a o hk,hc,hd,by simpa using hs⟩,?_⟩;have e:=r.length;simp only [bL] at e;omega
theorem Inv.tuple(I:Inv X pins σ H s)(h:SqT X.K H a xs):∃ its:List Value,Vals xs its/\IsTup s.heap a its.toArray/\xs.length<=sizeLine:=by
 rcases h with h|⟨o,its,n,hk,hc,hs,hz,r⟩
 ·obtain⟨z,its,r,p⟩:=h.ok I.hok;exact⟨its,r,p,z⟩
 ·refine⟨its.toList,r,⟨o,I.kIn a o hk,hc,n,by simpa using hs⟩,?_⟩;have e:=r.length;simp only [bL] at e;omega
theorem Inv.list_inj(I:Inv X pins σ H s)(h:SqL X.K H a xs)(h':SqL X.K H a ys):xs=ys:=by
 obtain⟨its,r,⟨o,n,e,_,_,d⟩,_⟩:=I.list h;obtain⟨its',r',⟨o',n',e',_,_,d'⟩,_⟩:=I.list h';rw [e] at e';cases e';rw [d] at d';injection d' with d1 _;have:its=its':=by simpa using congrArg Array.toList d1
 subst this;exact r.inj r'
theorem Inv.tuple_inj(I:Inv X pins σ H s)(h:SqT X.K H a xs)(h':SqT X.K H a ys):xs=ys:=by
 obtain⟨its,r,⟨o,e,_,n,d⟩,_⟩:=I.tuple h;obtain⟨its',r',⟨o',e',_,n',d'⟩,_⟩:=I.tuple h';rw [e] at e';cases e';rw [d] at d';injection d' with d1 _;have:its=its':=by simpa using congrArg Array.toList d1
 subst this;exact r.inj r'
end
abbrev Cx.wish(X:Cx)(E:Value->Shared->Prop):Cx:={ X with xe:=E }
abbrev Cx.nox(X:Cx):Cx:=X.wish fun _ _=>False
theorem Cx.Ok.wish{X:Cx}(ok:X.Ok)(E:Value->Shared->Prop):(X.wish E).Ok :=
 ⟨ok.mod,ok.kind,ok.glob,ok.blt,ok.above,ok.inj,ok.has,ok.cab,ok.hd,ok.frames,ok.stk,ok.exf,ok.bs,ok.bsz,ok.noex,ok.exfs,ok.funs,ok.frf,ok.sr,ok.rn⟩
theorem Cx.Ok.unwish{X:Cx}{E:Value->Shared->Prop}(ok:(X.wish E).Ok):X.Ok :=
 ⟨ok.mod,ok.kind,ok.glob,ok.blt,ok.above,ok.inj,ok.has,ok.cab,ok.hd,ok.frames,ok.stk,ok.exf,ok.bs,ok.bsz,ok.noex,ok.exfs,ok.funs,ok.frf,ok.sr,ok.rn⟩
section
variable{X:Cx}{pins:List (Addr×Obj)}{σ:St}{H:Hp}{s:Shared}{E:Value->Shared->Prop}
theorem Inv.wish(I:Inv X pins σ H s)(E:Value->Shared->Prop):Inv (X.wish E) pins σ H s:=⟨I.ok.wish E,I.os,I.bare,I.base,I.loc,I.cell,I.free,I.freeC,I.pin,I.hok,I.len⟩
theorem Inv.unwish(I:Inv (X.wish E) pins σ H s):Inv X pins σ H s:=⟨I.ok.unwish,I.os,I.bare,I.base,I.loc,I.cell,I.free,I.freeC,I.pin,I.hok,I.len⟩
theorem SP.unwish{D:Ends}{f:Flow}{s':Shared}(h:SP (X.wish E) pins D f s'):SP X pins D f s':=by
 cases f with
 | next=>obtain⟨σ',H',I,q⟩:=h;exact⟨σ',H',I.unwish,q⟩
 | brk=>obtain⟨σ',H',I,q⟩:=h;exact⟨σ',H',I.unwish,q⟩
 | cont=>obtain⟨σ',H',I,q⟩:=h;exact⟨σ',H',I.unwish,q⟩
 | ret u=>obtain⟨v,σ',H',I,r,q⟩:=h;exact⟨v,σ',H',I.unwish,r,q⟩
theorem PSs.nox{st:List Stmt}{t:TS}(h:PSs X.nox st t):PSs X st t:=fun pins s σ H D I hw =>
 wpAny_mono (h pins s σ H D (I.wish _) hw) (fun _ _ q=>q.unwish) fun _ _ z=>False.elim z
end
section
variable{X:Cx}{st:Stmt}{rest:List Stmt}{t u:TS}{e:Expr}{te:TE}{pos:Pos}
def xz:TS:=fun D σ H=>D.nx σ H
def Ag(t u:TS):TS:=fun D σ H=>t { D with nx:=u D } σ H
theorem pss_nil:PSs X [] xz:=fun _ _ σ H _ I h=>wpAny_execs_nil ⟨σ,H,I,h⟩
theorem jq(h1:PS X st t)(h2:PSs X rest u):PSs X (st::rest) (Ag t u):=by
 intro pins s σ H D I h;refine wpAny_execs_cons (ja (h1 pins s σ H { D with nx:=u D } I h) fun f s1 q=>?_);cases f with
 | next =>
  obtain⟨σ',H',I',q⟩:=q;exact h2 pins s1 σ' H' D I' q
 | ret v=>exact q
 | brk=>exact q
 | cont=>exact q
theorem jh(h1:PS X st t):PSs X [st] t:=by
 intro pins s σ H D I h;refine wpAny_execs_cons (ja (h1 pins s σ H D I h) fun f s1 q=>?_);cases f with
 | next=>exact wpAny_execs_nil q
 | ret v=>exact q
 | brk=>exact q
 | cont=>exact q
def yj:TS:=fun D σ H=>D.bk σ H
theorem ps_pass:PS X (.Pass pos) xz:=fun _ _ σ H _ I h=>wpAny_Pass ⟨σ,H,I,h⟩
theorem ps_break:PS X (.Break pos) yj:=fun _ _ σ H _ I h=>wpAny_Break ⟨σ,H,I,h⟩
theorem Inv.quiet{pins:List (Addr×Obj)}{σ:St}{H:Hp}{s:Shared}(I:Inv X pins σ H s):interactive X.env=false:=by simp [interactive,I.ok.kind]
def Al(te:TE):TS:=fun D σ H=>te σ H fun _ H1=>D.nx σ H1
theorem kh(he:PE X e te)(hs:swapsWith e none pos.line X.env=pure false:=by rfl):PS X (.Expr e pos) (Al te):=by
 intro pins s σ H D I h;exact wpAny_Expr_any (ja (he pins s σ H _ I h) fun v s1 ⟨x,H1,I1,r1,q1⟩=>⟨σ,H1,I1,q1⟩) I.quiet hs
def BS(te:TE):TS:=fun D σ H=>te σ H D.rt
theorem jK(he:PE X e te):PS X (.Return (some e) pos) (BS te):=by
 intro pins s σ H D I h;exact wpAny_Return_some (ja (he pins s σ H _ I h) fun v s1 ⟨x,H1,I1,r1,q1⟩=>⟨x,σ,H1,I1,r1,q1⟩)
def Ah:TS:=fun D _ H=>D.rt .non H
theorem ps_retN:PS X (.Return none pos) Ah:=fun _ _ σ H _ I h=>wpAny_Return_none ⟨.non,σ,H,I,rfl,h⟩
def BW(c:TT)(t u:TS):TS:=fun D σ H=>c σ H fun b H1=>if b=true then t D σ H1 else u D σ H1
theorem lu{c:Expr}{a b:List Stmt}{tc:TT}(hc:PT X c tc)(ha:PSs X a t)(hb:PSs X b u):PS X (.If c a b pos) (BW tc t u):=by
 intro pins s σ H D I h;refine wpAny_If (ja (hc pins s σ H _ I h) fun d s1 ⟨H1,I1,q1⟩=>?_);cases d with
 | true=>exact ha pins s1 σ H1 D I1 q1
 | false=>exact hb pins s1 σ H1 D I1 q1
end
abbrev TG:=V->St->Hp->(St->Hp->Prop)->Prop
abbrev xW:=List V->St->Hp->(St->Hp->Prop)->Prop
def PG(X:Cx)(target:Expr)(t:TG):Prop :=
 ∀(pins:List (Addr×Obj)) (s:Shared) (σ:St) (H:Hp) (v:V) (u:Value) (Q:St->Hp->Prop),Inv X pins σ H s->RelV v u->t v σ H Q ->
  wpAny (model X.prog X.w) X.A (assign target X.env u) (fun _ s'=>∃ σ' H',Inv X pins σ' H' s'/\Q σ' H') X.xe s
def Br(X:Cx)(ts:List Expr)(t:xW):Prop :=
 ∀(pins:List (Addr×Obj)) (s:Shared) (σ:St) (H:Hp) (vs:List V) (us:List Value) (Q:St->Hp->Prop),Inv X pins σ H s->Vals vs us->t vs σ H Q ->
  wpAny (model X.prog X.w) X.A (assignInOrder ((assignEach ts X.env).map (·.2)) us) (fun _ s'=>∃ σ' H',Inv X pins σ' H' s'/\Q σ' H') X.xe s
abbrev vx:=V->V->V->Hp->(Hp->Prop)->Prop
def zL(X:Cx)(t:vx):Prop :=
 ∀(pins:List (Addr×Obj)) (s:Shared) (σ:St) (H:Hp) (o i v:V) (ov iv u:Value) (Q:Hp->Prop),Inv X pins σ H s->RelV o ov->RelV i iv->RelV v u->t o i v H Q ->
  wpAny (model X.prog X.w) X.A (setItem ov iv u) (fun _ s'=>∃ H',Inv X pins σ H' s'/\Q H') X.xe s
abbrev zT:=V->V->Hp->VK->Prop
def CJ(X:Cx)(op:Operator)(t:zT):Prop :=
 ∀(pins:List (Addr×Obj)) (s:Shared) (σ:St) (H:Hp) (x y:V) (v u:Value) (Q:VK),Inv X pins σ H s->RelV x v->RelV y u->t x y H Q ->
  wpAny (model X.prog X.w) X.A (inplaceOp op v u) (EP X pins σ Q) X.xe s
section
variable{X:Cx}{pos:Pos}
def m9(i:Nat):TG:=fun v σ H Q=>Q (σ.set i (some v)) H
theorem nE{i:Nat}{x:Str}(hN:X.N.Nodup)(hi:X.N[i]? = some x)(hx:pC X.env.scope x)(hf:X.fn x=true\/X.env.scope.names.lookup x=some .local:=by first|exact .inl rfl|exact .inr rfl|assumption):PG X (.Name x pos) (m9 i):=by
 intro pins s σ H v u Q I r h;exact wpAny_assign_Name (jE I hN hi hx r (fun s' I'=>⟨_,H,I',h⟩) hf)
def A9:xW:=fun vs σ H Q=>vs=[]/\Q σ H
def xS(t:TG)(u:xW):xW:=fun vs σ H Q=>∃ v r,vs=v::r/\t v σ H fun σ' H'=>u r σ' H' Q
theorem v5:Br X [] A9:=by
 intro pins s σ H vs us Q I r h;obtain⟨e,h⟩:=h;subst e;cases r;exact assignInOrder_nil ⟨σ,H,I,h⟩
theorem ub{e:Expr}{es:List Expr}{t:TG}{u:xW}(h1:PG X e t)(h2:Br X es u)
  (hs:(assignEach (e::es) X.env).map (·.2)=assign e X.env::(assignEach es X.env).map (·.2):=by rfl):Br X (e::es) (xS t u):=by
 intro pins s σ H vs us Q I r h;obtain⟨v,vr,e1,h⟩:=h;subst e1;cases r with
 | cons r rr =>
  rw [hs];refine assignInOrder_cons (ja (h1 pins s σ H _ _ _ I r h) fun _ s1 ⟨σ1,H1,I1,q1⟩=>?_);exact h2 pins s1 σ1 H1 _ _ Q I1 rr q1
def A7(K:Frag)(n:Nat)(t:xW):TG:=fun v σ H Q=>∃ a xs,v = .ref a/\SqT K H a xs/\xs.length=n/\t xs σ H Q
theorem pS{es:List Expr}{k:Nat}{t:xW}{n:Nat}(hc:X.calm=true)(h:Br X es t)
  (hn:(assignEach es X.env).length=n:=by rfl) (hst:(assignEach es X.env).findIdx? (·.1)=none:=by rfl):PG X (.Tuple es k pos) (A7 X.K n t):=by
 intro pins s σ H v u Q I r hw;obtain⟨a,xs,e1,hq,hl,hw⟩:=hw;subst e1;cases r;obtain⟨its,rv,ht,hz⟩:=I.tuple hq;refine assign_Tuple_tuple (I.ok.hd hc) ht (by simp [hn,← hl,rv.length]) hst fun h' hx=>?_;have I1:Inv X pins σ H { s with heap:=h' }:=I.kept (t':=s.toks) fun b o e=>hx b o (aD (Heap.lt_size e)) e;exact h pins _ σ H xs _ Q I1 (by simpa using rv) hw
def A8(to ti:TE)(t:vx):TG:=fun v σ H Q=>to σ H fun o H1=>ti σ H1 fun i H2=>t o i v H2 fun H3=>Q σ H3
theorem ky{o i:Expr}{to ti:TE}{t:vx}(ho:PE X o to)(hi:PE X i ti)(hs:zL X t)
  (ha:∀ v,assign (.Subscript o i pos) X.env v=(do
   let ov ← holding [v] (eval o X.env)
   let iv ← holding [v,ov] (eval i X.env)
   standAt pos
   holding [v,ov,iv] (setItem ov iv v)
   release [v,ov,iv] []):=by intro _;rfl):PG X (.Subscript o i pos) (A8 to ti t):=by
 intro pins s σ H v u Q I r h;rw [ha];refine wpAny_bind (wpAny_holding (ja (ho pins s σ H _ I h) fun ov s1 ⟨x,H1,I1,r1,q1⟩=>?_));refine wpAny_bind (wpAny_holding (ja (hi pins s1 σ H1 _ I1 q1) fun iv s2 ⟨y,H2,I2,r2,q2⟩=>?_));refine wpAny_bind (wpAny_standAt (wpAny_bind (wpAny_holding (ja (hs pins s2 σ H2 x y v ov iv u _ I2 r1 r2 r q2) fun _ s3 ⟨H3,I3,q3⟩=>?_))));exact wpAny_release ⟨σ,H3,I3,q3⟩
def yk(te:TE)(g:TG):TS:=fun D σ H=>te σ H fun x H1=>g x σ H1 D.nx
theorem j4{tg e:Expr}{te:TE}{g:TG}(he:PE X e te)(hg:PG X tg g)(hs:swapsWithSole [tg] e pos.line X.env=pure false:=by rfl)(hw:swappedStores [tg] e X.env=pure none:=by rfl)
  (h1:(assignEach [tg] X.env).map (·.2)=[assign tg X.env]:=by rfl):PS X (.Assign [tg] e pos) (yk te g):=by
 intro pins s σ H D I h;refine wpAny_Assign_stores (ja (he pins s σ H _ I h) fun v s1 ⟨x,H1,I1,r1,q1⟩=>?_) hs hw;rw [h1];exact ja (hg pins s1 σ H1 x v _ I1 r1 q1) fun _ s2 q=>q
theorem jJ{i:Nat}{x:Str}{e:Expr}{te:TE}{pos':Pos}(hN:X.N.Nodup)(hi:X.N[i]? = some x)(hx:pC X.env.scope x)(he:PE X e te)(hs:swapsWith e (some (.Name x pos')) pos.line X.env=pure false:=by rfl)(hf:X.fn x=true\/X.env.scope.names.lookup x=some .local:=by first|exact .inl rfl|exact .inr rfl|assumption) :
  PS X (.Assign [.Name x pos'] e pos) (yk te (m9 i)):=by
 intro pins s σ H D I h;refine wpAny_Assign_Name (ja (he pins s σ H _ I h) fun v s1 ⟨y,H1,I1,r1,q1⟩=>?_) hs;exact jE I1 hN hi hx r1 (fun s2 I2=>⟨_,H1,I2,q1⟩) hf
def yh(i j:Nat)(ta:TA):TS:=fun D σ H=>ta σ H fun vs H1=>∃ v w,vs=[v,w]/\D.nx ((σ.set i (some v)).set j (some w)) H1
theorem t6{i j:Nat}{x y:Str}{a b:Expr}{ta:TA}{px py pt:Pos}{kt k2 pt2}(hc:X.calm=true)(hN:X.N.Nodup)(hi:X.N[i]? = some x)(hj:X.N[j]? = some y)(hij:i≠j)
  (hx:X.env.scope.names.lookup x=some .local) (hy:X.env.scope.names.lookup y=some .local) (ha:PA X [a,b] ta)
  (hw:swappedStores [.Tuple [.Name x px,.Name y py] kt pt] (.Tuple [a,b] k2 pt2) X.env=pure (some [x,y]))
  (hs:swapsWithSole [.Tuple [.Name x px,.Name y py] kt pt] (.Tuple [a,b] k2 pt2) pos.line X.env=pure false:=by rfl) :
  PS X (.Assign [.Tuple [.Name x px,.Name y py] kt pt] (.Tuple [a,b] k2 pt2) pos) (yh i j ta):=by
 intro pins s σ H D I h;rw [exec_Assign_arm];refine wpAny_bind (wpAny_standAt ?_);rw [hs];refine wpAny_bind (wpAny_pure ?_);rw [if_neg (by decide)];refine wpAny_bind (Tuple_ (ja (ha _ pins s σ H _ I h) fun us s1 ⟨vs,H1,I1,r1,q1⟩=>?_));obtain⟨v,w,e1,q1⟩:=q1;subst e1;obtain⟨u1,u2,rfl,rv,rw'⟩:∃ u1 u2,us=[u1,u2]/\RelV v u1/\RelV w u2:=by
  cases r1 with
  | cons p q =>
   cases q with
   | cons p' q' =>
    cases q';exact⟨_,_,rfl,p,p'⟩
 refine wpAny_newObj_type ?_ (by show 2<=sizeLine;decide);have I2:Inv X pins σ H1 { s1 with heap:=s1.heap.push { cls:=.type "tuple",data:=.seq [u1,u2].toArray } }:=I1.kept (t':=s1.toks) fun b o e=>Heap.get?_push_of_some _ e;rw [hw];refine wpAny_bind (wpAny_pure ?_);show wpAny (model X.prog X.w) X.A (do rule "assign.swapped-stores";let items ← unpackItems (.ref s1.heap.objs.size) 2 none;assignInOrder [fun v=>bindName X.env y v,fun v=>bindName X.env x v] items.reverse;pure Flow.next) _ _ _;refine wpAny_bind (wpAny_rule (wpAny_bind (unpackItems_tuple (items:=#[u1,u2]) (I.ok.hd hc) (IsTup.new s1.heap _) fun h' hx'=>?_)));have I3:=I2.kept (h':=h') (t':=s1.toks) fun b o e=>hx' b o (aD (Heap.lt_size e)) e;show wpAny _ _ (assignInOrder [fun v=>bindName X.env y v,fun v=>bindName X.env x v] [u2,u1] >>= fun _=>pure Flow.next) _ _ _;refine wpAny_bind (assignInOrder_cons (wpAny_bindName (jE I3 hN hj (.inl hy) rw' (fun s2 I4=>?_) (.inr hy))));refine assignInOrder_cons (wpAny_bindName (jE I4 hN hi (.inl hx) rv (fun s3 I5=>assignInOrder_nil (wpAny_pure ?_)) (.inr hx)));rw [List.set_comm _ _ (Ne.symm hij)] at I5;exact⟨_,H1,I5,q1⟩
def B1(i:Nat)(te:TE)(ti:zT):TS:=fun D σ H=>∃ x,σ[i]? = some (some x)/\te σ H fun y H1=>ti x y H1 fun z H2=>D.nx (σ.set i (some z)) H2
theorem t7{i:Nat}{x:Str}{e:Expr}{te:TE}{op:Operator}{ti:zT}{pos':Pos}(hN:X.N.Nodup)(hi:X.N[i]? = some x)(hx:pC X.env.scope x)(he:PE X e te)(ho:CJ X op ti)(hf:X.fn x=true\/X.env.scope.names.lookup x=some .local:=by first|exact .inl rfl|exact .inr rfl|assumption) :
  PS X (.AugAssign (.Name x pos') op e pos) (B1 i te ti):=by
 intro pins s σ H D I h;obtain⟨v,e1,h⟩:=h;obtain⟨m,hn,hl⟩:=I.loc;have vis:xp X.env.scope x:=by rcases hx with k|k;exact .inl k;exact .inr (.inl k)
 obtain⟨u,r,l⟩:=hl i x v hi e1 vis;refine wpAny_AugAssign_Name ?_;have go:wpAny (model X.prog X.w) X.A (eval e X.env) (fun w s₂=>wpAny (model X.prog X.w) X.A (inplaceOp op u w) (fun r s₃=>wpAny (model X.prog X.w) X.A (storeName X.env x r) (fun _=>SP X pins D .next) X.xe s₃) X.xe s₂) X.xe s:=by
  refine ja (he pins s σ H _ I h) fun w s1 ⟨y,H1,I1,r1,q1⟩=>?_;refine ja (ho pins s1 σ H1 v y u w _ I1 r r1 q1) fun z s2 ⟨zv,H2,I2,r2,q2⟩=>?_;exact jE I2 hN hi hx r2 (fun s3 I3=>⟨_,H2,I3,q2⟩) hf
 rcases l with⟨hk,hm⟩|⟨hk,c,hc,hcell⟩
 ·exact wpAny_loadName_local I.ok.kind hk hn hm go
 ·rcases hk with hk|hk
  ·exact wpAny_loadName_cell I.ok.kind hk hc hcell go
  ·rcases hx with k|k
   ·have:X.env.scope.names.lookup x=some .free:=hk;rw [k] at this;cases this
   ·have:X.env.scope.names.lookup x=some .free:=hk;rw [k] at this;cases this
def An(to ti te:TE)(tget:V->V->Hp->VK->Prop)(tip:zT)(tset:vx):TS:=fun D σ H=>to σ H fun o H1=>ti σ H1 fun i H2=>tget o i H2 fun x H3=>te σ H3 fun y H4=>tip x y H4 fun z H5=>tset o i z H5 fun H6=>D.nx σ H6
def Bs(X:Cx)(t:V->V->Hp->VK->Prop):Prop :=
 ∀(pins:List (Addr×Obj)) (s:Shared) (σ:St) (H:Hp) (o i:V) (ov iv:Value) (Q:VK),Inv X pins σ H s->RelV o ov->RelV i iv->t o i H Q ->
  wpAny (model X.prog X.w) X.A (getItem ov iv) (EP X pins σ Q) X.xe s
theorem vZ{o i e:Expr}{to ti te:TE}{tget:V->V->Hp->VK->Prop}{tip:zT}{tset:vx}{op:Operator}{tpos:Pos}(ho:PE X o to)(hi:PE X i ti)(hg:Bs X tget)(he:PE X e te)(hp:CJ X op tip)(hs:zL X tset)
  (ha:∀ ov iv new,augStore i ov iv new=(do holding [new,ov,iv] (setItem ov iv new);release [new,ov,iv] [];pure .next):=by intros;rfl):PS X (.AugAssign (.Subscript o i tpos) op e pos) (An to ti te tget tip tset):=by
 intro pins s σ H D I h;refine wpAny_AugAssign_SubscriptAny (ja (ho pins s σ H _ I h) fun ov s1 ⟨x1,H1,I1,r1,q1⟩=>?_) ha;refine ja (hi pins s1 σ H1 _ I1 q1) fun iv s2 ⟨x2,H2,I2,r2,q2⟩=>?_;refine ja (hg pins s2 σ H2 x1 x2 ov iv _ I2 r1 r2 q2) fun old s3 ⟨x3,H3,I3,r3,q3⟩=>?_;refine ja (he pins s3 σ H3 _ I3 q3) fun v s4 ⟨x4,H4,I4,r4,q4⟩=>?_;refine ja (hp pins s4 σ H4 x3 x4 old v _ I4 r3 r4 q4) fun new s5 ⟨x5,H5,I5,r5,q5⟩=>?_;exact ja (hs pins s5 σ H5 x1 x2 x5 ov iv new _ I5 r1 r2 r5 q5) fun _ s6 ⟨H6,I6,q6⟩=>⟨σ,H6,I6,q6⟩
end
section
variable{X:Cx}{pos:Pos}
def yg(c:TT)(tb:TS):TS:=fun D σ H=>∃ W:Nat->St->Hp->Prop,(∃ m,W m σ H)/\∀ m σ H,W m σ H ->
 c σ H fun b H1=>if b=true then ∃ N:St->Hp->Prop,(∀ σ' H',N σ' H'->∃ m',m'<m/\W m' σ' H')/\tb { D with nx:=N,ct:=N,bk:=D.nx } σ H1 else D.nx σ H1
theorem t5{c:Expr}{body:List Stmt}{tc:TT}{tb:TS}(hp:PassesOwn (model X.prog X.w) X.A X.env X.xe)(hc:PT X c tc)(hb:PSs X body tb):PS X (.While c body [] pos) (yg tc tb):=by
 intro pins s σ H D I h;obtain⟨W,⟨m0,w0⟩,turn⟩:=h;refine wpAny_While (codeAny_whileLoop (fun n s'=>∃ σ' H',Inv X pins σ' H' s'/\W n σ' H') ?_ m0 ⟨σ,H,I,w0⟩);rintro n s1 ⟨σ1,H1,I1,w1⟩;refine wpAny_passesOwn hp (ja (hc pins s1 σ1 H1 _ I1 (turn n σ1 H1 w1)) fun b s2 ⟨H2,I2,q2⟩=>?_);cases b with
 | true =>
  obtain⟨N,hN,q2⟩:=q2;rw [if_pos rfl];refine wpAny_passesOwn hp (ja (hb pins s2 σ1 H2 _ I2 q2) fun f s3 q3=>?_);cases f with
  | next =>
   obtain⟨σ3,H3,I3,n3⟩:=q3;obtain⟨m',hm,w3⟩:=hN σ3 H3 n3;exact⟨m',hm,σ3,H3,I3,w3⟩
  | cont =>
   obtain⟨σ3,H3,I3,n3⟩:=q3;obtain⟨m',hm,w3⟩:=hN σ3 H3 n3;exact⟨m',hm,σ3,H3,I3,w3⟩
  | brk=>exact q3
  | ret v=>exact q3
 | false =>
  rw [if_neg am];exact wpAny_execs_nil ⟨σ1,H2,I2,q2⟩
end
structure It where
 go:Nat->Hp->Prop
 yld:Nat->Hp->V->Hp->Prop
 stop:Nat->Hp->Prop
def ke(X:Cx)(pins:List (Addr×Obj))(H:Hp)(b:Addr):Prop :=
 H b=none/\b≠X.env.locals/\b ∉ X.fs/\(b∈X.ex\/X.s₀.heap.objs.size<=b)/\(∀ x c,X.env.cells.lookup x=some c->c≠b)/\∀ p∈X.pn++pins,p.1≠b
theorem Inv.fpOk{X:Cx}{pins:List (Addr×Obj)}{σ:St}{H H':Hp}{s:Shared}{b:Addr}(I:Inv X pins σ H s)(hb:s.heap.objs.size<=b)(hn:H' b=none):ke X pins H' b:=by
 refine⟨hn,bU (ak I.lt hb),I.nofs hb,.inr (az I.sz hb),fun x c e z=>?_,fun p hp z=>?_⟩
 ·obtain⟨v,q⟩:=I.cell x c e;exact absurd (ak q.lt (by rw [z];exact hb)) (aN _)
 ·exact absurd (ak (Heap.lt_size (I.pin p hp).1) (by rw [z];exact hb)) (aN _)
structure Turn (P:Program)(w:World)(K:Frag)(tg:Expr)(J:It)(fp:List Addr)(it:Addr)(tn:Nat->Heap->Prop):Prop where
 mem:it∈fp
 obj:∀ i h,tn i h->∀ b∈fp,∃ o,h.get? b=some o/\∀ v,o.data ≠ .cell v
 keep:∀ i h h',tn i h->(∀ b∈fp,∀ o,h.get? b=some o->h'.get? b=some o)->tn i h'
 item:∀(X:Cx),X.prog=P->X.w=w->X.K=K->X.calm=true->∀(i:Nat) (pins:List (Addr×Obj)) (s:Shared) (σ:St) (H:Hp) (E:Value->Shared->Prop),Inv X pins σ H s->(∀ b∈fp,ke X pins H b)->tn i s.heap->J.go i H ->
  wpAny (model P w) X.A (pyNext (.ref it)) (fun r s1=>∃ u,r=some u /\
   wpAny (model P w) X.A (letOwnedTupleGo tg (.ref it) u) (fun _ s2=>∃ x H',Inv X pins σ H' s2/\RelV x u/\J.yld i H x H'/\tn (i+1) s2.heap/\∀ b∈fp,H' b=none) E s1) E s
 done:∀(X:Cx),X.prog=P->X.w=w->X.K=K->X.calm=true->∀(i:Nat) (pins:List (Addr×Obj)) (s:Shared) (σ:St) (H:Hp) (E:Value->Shared->Prop),Inv X pins σ H s->(∀ b∈fp,ke X pins H b)->tn i s.heap->J.stop i H ->
  wpAny (model P w) X.A (pyNext (.ref it)) (fun r s1=>r=none/\Inv X pins σ H s1) E s
 self:∀(A:Around) (i:Nat) (s:Shared) (Q:Value->Shared->Prop) (E:Value->Shared->Prop),tn i s.heap->Q (.ref it) s->wpAny (model P w) A (pyIter (.ref it)) Q E s
abbrev TI:=St->Hp->(It->Hp->Prop)->Prop
def BI(X:Cx)(pins:List (Addr×Obj))(σ:St)(tg:Expr)(R:It->Hp->Prop)(itv:Value)(s2:Shared):Prop :=
 ∃(it:Addr) (fp:List Addr) (tn:Nat->Heap->Prop) (J:It) (H':Hp),itv = .ref it/\Inv X pins σ H' s2/\Turn X.prog X.w X.K tg J fp it tn/\tn 0 s2.heap/\(∀ b∈fp,ke X pins H' b)/\R J H'
def PI(X:Cx)(tg iter:Expr)(wi:TI):Prop :=
 ∀(pins:List (Addr×Obj)) (s:Shared) (σ:St) (H:Hp) (R:It->Hp->Prop),Inv X pins σ H s->wi σ H R ->
  wpAny (model X.prog X.w) X.A (eval iter X.env) (fun v s1=>wpAny (model X.prog X.w) X.A (pyIter v) (BI X pins σ tg R) X.xe s1) X.xe s
theorem m8{M:Model}{A:Around}{E:Value->Shared->Prop}{s:Shared}{tg:Expr}{it:Addr}{u:Value}{o:Obj}{n:String}{vs:Array Value}{Q:Unit->Shared->Prop}(ho:s.heap.get? it=some o)(hc:o.cls = .type n)(hd:o.data = .fields vs)
  (hn:["enumerate", "zip", "dict_itemiterator", "dict_reverseitemiterator", "odict_iterator", "itertools.zip_longest", "itertools.pairwise"].contains n=false) (hQ:Q () s):wpAny M A (letOwnedTupleGo tg (.ref it) u) Q E s:=by
 unfold letOwnedTupleGo;cases tg <;> first
  | exact wpAny_pure hQ
  | (cases u <;> first
    | exact wpAny_pure hQ
    | (refine wpAny_bind (wpAny_load ho ?_)
       rw [hc,hd];show wpAny M A (if (["enumerate", "zip", "dict_itemiterator", "dict_reverseitemiterator", "odict_iterator", "itertools.zip_longest", "itertools.pairwise"].contains n && vs[0]? == some (rawInt _))=true then _ else _) Q E s;rw [if_neg (by intro h;rw [hn,cw] at h;cases h)];exact wpAny_pure hQ))
def Dc(K:Frag)(a:Addr):It :=
 ⟨fun i H=>∃ xs x,SqL K H a xs/\xs[i]? = some x,fun i H x H'=>H'=H/\∀ xs,SqL K H a xs->xs[i]? = some x,fun i H=>∃ xs,SqL K H a xs/\xs.length<=i⟩
def Db(K:Frag)(a:Addr):It :=
 ⟨fun i H=>∃ xs x,SqT K H a xs/\xs[i]? = some x,fun i H x H'=>H'=H/\∀ xs,SqT K H a xs->xs[i]? = some x,fun i H=>∃ xs,SqT K H a xs/\xs.length<=i⟩
def zV(lo:Int)(n:Nat):It:=⟨fun i _=>i<n,fun i H x H'=>H'=H/\x = .int (lo+i),fun i _=>n<=i⟩
theorem rT{P:Program}{w:World}{K:Frag}{tg:Expr}(a it:Addr):Turn P w K tg (Dc K a) [it] it (fun i h=>h.IsListIter it a i) where
 mem:=by simp
 obj:=fun i h st b hb=>by
  have e:b=it:=by simpa using hb
  subst e;obtain⟨o,e,c,d⟩:=st;exact⟨o,e,fun v z=>by rw [d] at z;cases z⟩
 keep:=fun i h h' st k=>st.at fun o e=>k it (by simp) o e
 item:=by
  intro X hP hw hK hc i pins s σ H E I hf st hg;subst hP hw hK;obtain⟨xs,x,hq,hx⟩:=hg;obtain⟨its,rv,p,hz⟩:=I.list hq;obtain⟨u,hu,ru⟩:=rv.get hx;obtain⟨f0,f1,f2,f3,f4,f5⟩:=hf it (by simp);refine wpAny_pyNext_list_item st p.isList (x:=u) (by simpa using hu) fun h' st' sb=>?_;have I1:Inv X pins σ H { s with heap:=h' }:=I.turned (t':=s.toks) (fun b o hb e=>(sb.2 b hb).trans e) f0 f1 f3 f4 f5;obtain⟨o,e,c,d⟩:=id st';exact⟨u,rfl,m8 (s:={ s with heap:=h' }) e c d (by decide) ⟨x,H,I1,ru,⟨rfl,fun ys hy=>by rw [I.list_inj hy hq];exact hx⟩,st',fun b hb=>(hf b hb).1⟩⟩
 done:=by
  intro X hP hw hK hc i pins s σ H E I hf st hg;subst hP hw hK;obtain⟨xs,hq,hx⟩:=hg;obtain⟨its,rv,p,hz⟩:=I.list hq;obtain⟨f0,f1,f2,f3,f4,f5⟩:=hf it (by simp);have hl:=rv.length;exact wpAny_pyNext_list_end (I.ok.hd hc) st p.isList (by simp;omega) fun h' eb=>⟨rfl,I.turned (t':=s.toks) (fun b o hb e=>eb b o hb e) f0 f1 f3 f4 f5⟩
 self:=fun _ _ _ _ _ st h=>wpAny_pyIter_listiter st h
theorem pI{P:Program}{w:World}{K:Frag}{tg:Expr}(a it:Addr):Turn P w K tg (Db K a) [it] it (fun i h=>h.IsTupleIter it a i) where
 mem:=by simp
 obj:=fun i h st b hb=>by
  have e:b=it:=by simpa using hb
  subst e;obtain⟨o,e,c,d⟩:=st;exact⟨o,e,fun v z=>by rw [d] at z;cases z⟩
 keep:=fun i h h' st k=>st.at fun o e=>k it (by simp) o e
 item:=by
  intro X hP hw hK hc i pins s σ H E I hf st hg;subst hP hw hK;obtain⟨xs,x,hq,hx⟩:=hg;obtain⟨its,rv,p,hz⟩:=I.tuple hq;obtain⟨u,hu,ru⟩:=rv.get hx;obtain⟨f0,f1,f2,f3,f4,f5⟩:=hf it (by simp);refine wpAny_pyNext_tuple_item st (show s.heap.IsTuple a its.toArray from p) (x:=u) (by simpa using hu) fun h' st' sb=>?_;have I1:Inv X pins σ H { s with heap:=h' }:=I.turned (t':=s.toks) (fun b o hb e=>(sb.2 b hb).trans e) f0 f1 f3 f4 f5;obtain⟨o,e,c,d⟩:=id st';exact⟨u,rfl,m8 (s:={ s with heap:=h' }) e c d (by decide) ⟨x,H,I1,ru,⟨rfl,fun ys hy=>by rw [I.tuple_inj hy hq];exact hx⟩,st',fun b hb=>(hf b hb).1⟩⟩
 done:=by
  intro X hP hw hK hc i pins s σ H E I hf st hg;subst hP hw hK;obtain⟨xs,hq,hx⟩:=hg;obtain⟨its,rv,p,hz⟩:=I.tuple hq;obtain⟨f0,f1,f2,f3,f4,f5⟩:=hf it (by simp);have hl:=rv.length;exact wpAny_pyNext_tuple_end (I.ok.hd hc) st (show s.heap.IsTuple a its.toArray from p) (by simp;omega) fun h' eb=>⟨rfl,I.turned (t':=s.toks) (fun b o hb e=>eb b o hb e) f0 f1 f3 f4 f5⟩
 self:=fun _ _ _ _ _ st h=>wpAny_pyIter_tupleiter st h
theorem pJ{P:Program}{w:World}{K:Frag}{tg:Expr}(it:Addr)(lo:Int)(n:Nat):Turn P w K tg (zV lo n) [it] it (fun i h=>IsRangeIter h it (lo+(i:Nat)*1) ((n:Int)-(i:Nat)) 1) where
 mem:=by simp
 obj:=fun i h st b hb=>by
  have e:b=it:=by simpa using hb
  subst e;exact⟨_,st,fun v z=>by
   have z':Data.fields _=Data.cell v:=z;cases z'⟩
 keep:=fun i h h' st k=>k it (by simp) _ st
 item:=by
  intro X hP hw hK hc i pins s σ H E I hf st hg;subst hP hw hK;obtain⟨f0,f1,f2,f3,f4,f5⟩:=hf it (by simp);have W:=Walks.range (prog:=X.prog) (w:=X.w) (I.ok.hd hc) it lo 1 n;refine W.item i s _ _ hg st fun v h' tk hv st' kk=>?_;obtain⟨t,rfl⟩:=hv;have I1:Inv X pins σ H { s with heap:=h',toks:=tk }:=I.turned (fun b o hb e=>kk b o (by simpa using hb) e) f0 f1 f3 f4 f5;refine⟨_,rfl,m8 (s:={ s with heap:=h',toks:=tk }) (n := "range_iterator") st' rfl rfl (by decide) ⟨.int (lo+i),H,I1,⟨t,?_⟩,⟨rfl,rfl⟩,st',fun b hb=>(hf b hb).1⟩⟩;rw [Int.mul_one]
 done:=by
  intro X hP hw hK hc i pins s σ H E I hf st hg;subst hP hw hK;obtain⟨f0,f1,f2,f3,f4,f5⟩:=hf it (by simp);exact wpAny_pyNext_range_end (I.ok.hd hc) st (by have:n<=i:=hg;omega) fun h' eb=>⟨rfl,I.turned (t':=s.toks) (fun b o hb e=>eb b o hb e) f0 f1 f3 f4 f5⟩
 self:=fun _ _ _ _ _ st h=>wpAny_pyIter_rangeiter st h
end L2
namespace L2
open PySem PySem.Spec PyProof.Rows
section
variable{X:Cx}{tg:Expr}
theorem oG{pins:List (Addr×Obj)}{σ:St}{H:Hp}{s:Shared}{R:It->Hp->Prop}{E:Value->Shared->Prop}{lo hi:Int}{t u v:Tok}{tk:Nat}(I:Inv X pins σ H s)(h1 : -(2^62)<=lo)(h2:lo<2^62)(h3 : -(2^62)<=hi)(h4:hi<2^62)
  (q:R (zV lo (hi-lo).toNat) H):wpAny (model X.prog X.w) X.A (pyIter (.ref s.heap.objs.size)) (BI X pins σ tg R) E { s with heap:=s.heap.push { cls:=.type "range",data:=.fields #[.int lo t,.int hi u,.int 1 v] },toks:=tk }:=by
 refine wpAny_pyIter_range (IsRange.new ..) (small_one h1 h2 h3 h4) ?_;have I1:Inv X pins σ H { s with heap:=s.heap.push { cls:=.type "range",data:=.fields #[.int lo t,.int hi u,.int 1 v] },toks:=tk }:=I.kept fun b o e=>Heap.get?_push_of_some _ e;refine⟨(s.heap.push { cls:=.type "range",data:=.fields #[.int lo t,.int hi u,.int 1 v] }).objs.size,[(s.heap.push { cls:=.type "range",data:=.fields #[.int lo t,.int hi u,.int 1 v] }).objs.size],_,_,H,rfl,
  I1.kept (t':=tk) fun b o e=>Heap.get?_push_of_some _ e,pJ _ lo (hi-lo).toNat,?_,fun b hb=>?_,q⟩
 ·have e1:lo+((0:Nat):Int)*1=lo:=by simp
  have e2:(((hi-lo).toNat:Nat):Int)-((0:Nat):Int)=Builtin.Range.rangeSize lo hi 1:=by rw [rangeSize_one];split <;> omega
  show IsRangeIter _ _ (lo+((0:Nat):Int)*1) ((((hi-lo).toNat:Nat):Int)-((0:Nat):Int)) 1;rw [e1,e2];exact Heap.get?_push_size _ rfl
 ·have e:b=(s.heap.push { cls:=.type "range",data:=.fields #[.int lo t,.int hi u,.int 1 v] }).objs.size:=by simpa using hb
  subst e;exact I1.fpOk (ai _) (I1.hok.fresh (ai _))
def A0(ta:TA):TI:=fun σ H R=>ta σ H fun vs H1=>∃ j:Int,vs=[.int j] /\ -(2^62)<=j/\j<2^62/\R (zV 0 j.toNat) H1
def AZ(ta:TA):TI:=fun σ H R=>ta σ H fun vs H1=>∃ i j:Int,vs=[.int i,.int j]/\(-(2^62)<=i/\i<2^62 /\ -(2^62)<=j/\j<2^62)/\R (zV i (j-i).toNat) H1
theorem mM{a:Expr}{ta:TA}{p pos:Pos}(hg:Gl X "range")(hm:X.mg "range" = none)(ha:PA X [a] ta)(hs:starEach [a] X.env=[(false,eval a X.env)]:=by rfl):PI X tg (.Call (.Name "range" p) [a] [] pos) (A0 ta):=by
 intro pins s σ H R I h;refine Call_ (j7 I hg hm boot_range (PyProof.Rows.callWith_type1 (ja (ha pos pins s σ H _ I h) fun us s1 ⟨vs,H1,I1,r1,q1⟩=>?_) hs rfl));obtain⟨j,e,q1,q2,q⟩:=q1;subst e;cases r1 with
 | cons r rr =>
  cases rr;obtain⟨t,rfl⟩:=r;exact call_range_1 (oG I1 (by omega) (by omega) q1 q2 (by simpa using q))
theorem sh{a b:Expr}{ta:TA}{p pos:Pos}(hg:Gl X "range")(hm:X.mg "range" = none)(ha:PA X [a,b] ta)(hs:starEach [a,b] X.env=[(false,eval a X.env),(false,eval b X.env)]:=by rfl)(hs2:starEach [b] X.env=[(false,eval b X.env)]:=by rfl) :
  PI X tg (.Call (.Name "range" p) [a,b] [] pos) (AZ ta):=by
 intro pins s σ H R I h;refine Call_ (j7 I hg hm boot_range (PyProof.Rows.callWith_type1 (ja (ha pos pins s σ H _ I h) fun us s1 ⟨vs,H1,I1,r1,q1⟩=>?_) (by rw [hs,hs2]) (by rw [hs2];rfl)));obtain⟨i,j,e,⟨q1,q2,q3,q4⟩,q⟩:=q1;subst e;cases r1 with
 | cons r rr =>
  cases rr with
  | cons r' rr =>
   cases rr;obtain⟨t,rfl⟩:=r;obtain⟨t',rfl⟩:=r';exact call_range_2 (oG I1 q1 q2 q3 q4 q)
def BX(wi:TI)(g:TG)(tb:TS):TS:=fun D σ H=>wi σ H fun J H1=>∃ W:Nat->Nat->St->Hp->Prop,(∃ m,W 0 m σ H1)/\∀ i m σ H,W i m σ H ->
 (J.stop i H/\D.nx σ H)\/(J.go i H/\∃ N:St->Hp->Prop,(∀ σ' H',N σ' H'->∃ m',m'<m/\W (i+1) m' σ' H')/\∀ x H',J.yld i H x H'->g x σ H' fun σ2 H2=>tb { D with nx:=N,ct:=N,bk:=D.nx } σ2 H2)
def lV(fp:List Addr)(h:Heap):List (Addr×Obj):=fp.filterMap fun b=>(h.get? b).map fun o=>(b,o)
theorem jV{fp:List Addr}{h:Heap}{b:Addr}{o:Obj}(hb:b∈fp)(e:h.get? b=some o):(b,o)∈lV fp h:=cQ.mpr ⟨b,hb,by rw [e];rfl⟩
theorem sA{fp:List Addr}{h:Heap}{p:Addr×Obj}(hp:p∈lV fp h):p.1∈fp/\h.get? p.1=some p.2:=by
 obtain⟨b,hb,e⟩:=cQ.mp hp;cases q:h.get? b with
 | none=>rw [q] at e;cases e
 | some o =>
  rw [q] at e;have e':(b,o)=p:=Option.some.inj e;subst e';exact⟨hb,q⟩
theorem Inv.pinned{pins:List (Addr×Obj)}{σ:St}{H:Hp}{s:Shared}{fp:List Addr}(I:Inv X pins σ H s)(hf:∀ b∈fp,ke X pins H b)(ho:∀ b∈fp,∃ o,s.heap.get? b=some o/\∀ v,o.data ≠ .cell v):Inv X (pins++lV fp s.heap) σ H s :=
 I.pins_of fun p hp=>(bd.mp hp).elim (fun z=>I.pin p (aE _ z)) fun z=>by
  obtain⟨hb,e⟩:=sA z;obtain⟨f0,f1,f2,_⟩:=hf p.1 hb;obtain⟨o,e',d⟩:=ho p.1 hb;rw [e] at e';cases e';exact⟨e,f0,f1,f2,d⟩
theorem Inv.unpinned{pins pl:List (Addr×Obj)}{σ:St}{H:Hp}{s:Shared}(I:Inv X (pins++pl) σ H s):Inv X pins σ H s:=I.pins_of fun p hp=>I.pin p (aE _ (cJ _ hp))
theorem yI{iter:Expr}{body:List Stmt}{wi:TI}{g:TG}{tb:TS}{pos:Pos}(hp:PassesOwn (model X.prog X.w) X.A X.env X.xe)(hc:X.calm=true)(hi:PI X tg iter wi)(hg:PG X tg g)(hb:PSs X body tb)
  (hs:∀ x,foldedSetIterable iter X.env x=pure x:=by intro _;rfl):PS X (.For tg iter body [] pos) (BX wi g tb):=by
 intro pins s σ H D I h;refine wpAny_For (ja (hi pins s σ H _ I h) fun v s1 h1=>ja h1 fun itv s2 h2=>?_) hs;obtain⟨it,fp,tn,J,H2,e,I2,T,st2,f2,W,⟨m0,w0⟩,turn⟩:=h2;subst e
 -- what stays true of the iterator's objects through the loop
 have stat:∀{H':Hp},(∀ b∈fp,H' b=none)->∀ b∈fp,ke X pins H' b:=fun hn b hb=>⟨hn b hb,(f2 b hb).2⟩;refine codeAny_forLoop_any (fun n s'=>∃ i σ' H',Inv X pins σ' H' s'/\tn i s'.heap/\(∀ b∈fp,H' b=none)/\W i n σ' H') ?_ m0 ⟨0,σ,H2,I2,st2,fun b hb=>(f2 b hb).1,w0⟩;rintro n s3 ⟨i,σ3,H3,I3,st3,fr3,w3⟩;rcases turn i n σ3 H3 w3 with⟨stop,qn⟩|⟨go,N,hN,step⟩
 ·refine wpAny_passesOwn hp (ja (T.done X rfl rfl rfl hc i pins s3 σ3 H3 X.xe I3 (stat fr3) st3 stop) fun r s4 ⟨hr,I4⟩=>?_);subst hr;exact wpAny_execs_nil ⟨σ3,H3,I4,qn⟩
 ·refine wpAny_passesOwn hp (ja (T.item X rfl rfl rfl hc i pins s3 σ3 H3 X.xe I3 (stat fr3) st3 go) fun r s4 ⟨u,hr,h4⟩=>?_);subst hr;refine wpAny_passesOwn hp (ja h4 fun _ s5 ⟨x,H5,I5,r5,y5,st5,fr5⟩=>?_);have I5':=I5.pinned (stat fr5) (T.obj _ _ st5);refine wpAny_passesOwn hp (ja (hg _ s5 σ3 H5 x u _ I5' r5 (step x H5 y5)) fun _ s6 ⟨σ6,H6,I6,q6⟩=>?_);refine wpAny_passesOwn hp (ja (hb _ s6 σ6 H6 _ I6 q6) fun f s7 q7=>?_);have again:∀{σ7:St} {H7:Hp},Inv X (pins++lV fp s5.heap) σ7 H7 s7->N σ7 H7->∃ m,m<n/\∃ i σ' H',Inv X pins σ' H' s7/\tn i s7.heap/\(∀ b∈fp,H' b=none)/\W i m σ' H':=fun {σ7 H7} I7 n7=>by
   obtain⟨m',hm,w7⟩:=hN σ7 H7 n7;refine⟨m',hm,i+1,σ7,H7,I7.unpinned,T.keep _ _ _ st5 fun b hb o e=>(I7.pin (b,o) (aE _ (aE _ (jV hb e)))).1,fun b hb=>?_,w7⟩;obtain⟨o,e,d⟩:=T.obj _ _ st5 b hb;exact (I7.pin (b,o) (aE _ (aE _ (jV hb e)))).2.1
  cases f with
  | next=>obtain⟨σ7,H7,I7,n7⟩:=q7;exact again I7 n7
  | cont=>obtain⟨σ7,H7,I7,n7⟩:=q7;exact again I7 n7
  | brk=>obtain⟨σ7,H7,I7,q7⟩:=q7;exact⟨σ7,H7,I7.unpinned,q7⟩
  | ret v=>obtain⟨x7,σ7,H7,I7,r7,q7⟩:=q7;exact⟨x7,σ7,H7,I7.unpinned,r7,q7⟩
end
end L2
namespace L2
open PySem PySem.Spec PyProof.Rows
abbrev R2:=V->V->Hp->VK->Prop
def OpR(X:Cx)(f:Value->Value->Sem Value)(r:R2):Prop :=
 ∀(pins:List (Addr×Obj)) (s:Shared) (σ:St) (H:Hp) (x y:V) (v u:Value) (Q:VK),Inv X pins σ H s->RelV x v->RelV y u->r x y H Q ->
  wpAny (model X.prog X.w) X.A (f v u) (EP X pins σ Q) X.xe s
def CH(X:Cx)(f:Value->Sem Value)(r:V->Hp->VK->Prop):Prop :=
 ∀(pins:List (Addr×Obj)) (s:Shared) (σ:St) (H:Hp) (x:V) (v:Value) (Q:VK),Inv X pins σ H s->RelV x v->r x H Q ->
  wpAny (model X.prog X.w) X.A (f v) (EP X pins σ Q) X.xe s
def CallR(X:Cx)(f:Value)(r:List V->Hp->VK->Prop):Prop :=
 ∀(pins:List (Addr×Obj)) (s:Shared) (σ:St) (H:Hp) (xs:List V) (us:List Value) (Q:VK),Inv X pins σ H s->Vals xs us->r xs H Q ->
  wpAny (model X.prog X.w) X.A (call f us) (EP X pins σ Q) X.xe s
def CI(X:Cx)(r:V->Hp->(Bool->Hp->Prop)->Prop):Prop :=
 ∀(pins:List (Addr×Obj)) (s:Shared) (σ:St) (H:Hp) (x:V) (v:Value) (Q:Bool->Hp->Prop),Inv X pins σ H s->RelV x v->r x H Q ->
  wpAny (model X.prog X.w) X.A (truthy v) (TP X pins σ Q) X.xe s
def Aj(r:R2)(ta tb:TE):TE:=fun σ H Q=>ta σ H fun x H1=>tb σ H1 fun y H2=>r x y H2 Q
def De(r:V->Hp->VK->Prop)(ta:TE):TE:=fun σ H Q=>ta σ H fun x H1=>r x H1 Q
def rI(C:Int->Int->Prop)(g:Int->Int->V):R2:=fun x y H Q=>∃ i j,x = .int i/\y = .int j/\C i j/\Q (g i j) H
def tY(g:Int->Int->V):R2:=fun x y H Q=>∃ i j,x = .int i/\y = .int j/\Q (g i j) H
def rU(g:Int->V):V->Hp->VK->Prop:=fun x H Q=>∃ i,x = .int i/\Q (g i) H
section
variable{X:Cx}{a b c:Expr}{ta tb tc:TE}{pos:Pos}
theorem zD(ha:PE X a ta)(hb:PE X b tb){pins:List (Addr×Obj)}{s:Shared}{σ:St}{H:Hp}{R:V->V->Hp->Prop}(I:Inv X pins σ H s)
  (h:ta σ H fun x H1=>tb σ H1 fun y H2=>R x y H2) {Q:Value->Shared->Prop} {f:Value->Value->Sem Value}
  (hf:∀ v u s2 x y H2,Inv X pins σ H2 s2->RelV x v->RelV y u->R x y H2->wpAny (model X.prog X.w) X.A (f v u) Q X.xe s2) :
  wpAny (model X.prog X.w) X.A (eval a X.env) (fun v s₁=>wpAny (model X.prog X.w) X.A (eval b X.env) (fun u s₂=>wpAny (model X.prog X.w) X.A (f v u) Q X.xe s₂) X.xe s₁) X.xe s:=by
 refine ja (ha pins s σ H _ I h) fun v s1 ⟨x,H1,I1,r1,q1⟩=>?_;refine ja (hb pins s1 σ H1 _ I1 q1) fun u s2 ⟨y,H2,I2,r2,q2⟩=>?_;exact hf v u s2 x y H2 I2 r1 r2 q2
theorem ji{op:Operator}{r:R2}(ho:OpR X (binaryOp op) r)(ha:PE X a ta)(hb:PE X b tb):PE X (.BinOp a op b pos) (Aj r ta tb):=by
 intro pins s σ H Q I h;exact wpAny_BinOp (zD ha hb I h fun v u s2 x y H2 I2 rx ry q=>ho pins s2 σ H2 x y v u Q I2 rx ry q)
theorem xG{op:UnaryOp}{r:V->Hp->VK->Prop}(ho:CH X (unaryOp op) r)(ha:PE X a ta):PE X (.UnaryOp op a pos) (De r ta):=by
 intro pins s σ H Q I h;exact UnaryOp_ (ja (ha pins s σ H _ I h) fun v s1 ⟨x,H1,I1,r1,q1⟩=>ho pins s1 σ H1 x v Q I1 r1 q1)
theorem xK{f:Value->Value->Sem Value}{C:Int->Int->Prop}{g:Int->Int->Int}
  (rule:∀(i j:Int) (t u:Tok) (s:Shared) (Q:Value->Shared->Prop) (E:Value->Shared->Prop),C i j->Q (.int (g i j) s.toks) { s with toks:=s.toks+1 }->wpAny (model X.prog X.w) X.A (f (.int i t) (.int j u)) Q E s) :
  OpR X f (rI C fun i j=>.int (g i j)):=by
 intro pins s σ H x y v u Q I rx ry h;obtain⟨i,j,rfl,rfl,hc,q⟩:=h;obtain⟨t,rfl⟩:=rx;obtain⟨t',rfl⟩:=ry;exact rule i j t t' s _ _ hc ⟨.int (g i j),H,I.tok _,⟨_,rfl⟩,q⟩
theorem wp{f:Value->Value->Sem Value}{g:Int->Int->Int}
  (rule:∀(i j:Int) (t u:Tok) (s:Shared) (Q:Value->Shared->Prop) (E:Value->Shared->Prop),Q (.int (g i j) s.toks) { s with toks:=s.toks+1 }->wpAny (model X.prog X.w) X.A (f (.int i t) (.int j u)) Q E s) :
  OpR X f (tY fun i j=>.int (g i j)):=by
 intro pins s σ H x y v u Q I rx ry h;obtain⟨i,j,rfl,rfl,q⟩:=h;obtain⟨t,rfl⟩:=rx;obtain⟨t',rfl⟩:=ry;exact rule i j t t' s _ _ ⟨.int (g i j),H,I.tok _,⟨_,rfl⟩,q⟩
theorem wq{f:Value->Value->Sem Value}{g:Int->Int->Bool}
  (rule:∀(i j:Int) (t u:Tok) (s:Shared) (Q:Value->Shared->Prop) (E:Value->Shared->Prop),Q (.bool (g i j)) s->wpAny (model X.prog X.w) X.A (f (.int i t) (.int j u)) Q E s) :
  OpR X f (tY fun i j=>.bl (g i j)):=by
 intro pins s σ H x y v u Q I rx ry h;obtain⟨i,j,rfl,rfl,q⟩:=h;obtain⟨t,rfl⟩:=rx;obtain⟨t',rfl⟩:=ry;exact rule i j t t' s _ _ ⟨.bl (g i j),H,I,rfl,q⟩
def CO(i j:Int):Prop:=0<j/\j<1073741824
def xv(i j:Int):Prop:=0<=j/\j<=1000000/\i.natAbs<2^64
def CMul(i j:Int):Prop:=(-(2^64)<i/\i<2^64)\/(-(2^64)<j/\j<2^64)
theorem CMul.ok{i j:Int}(h:CMul i j):IntMulOk i j:=by
 rcases h with⟨h1,h2⟩|⟨h1,h2⟩
 ·exact .of_left (intBits_le_64 h1 h2)
 ·exact .of_right (intBits_le_64 h1 h2)
theorem jT:OpR X (binaryOp .Add) (tY fun i j=>.int (i+j)):=wp fun _ _ _ _ _ _ _ q=>add_int q
theorem yM:OpR X (binaryOp .Sub) (tY fun i j=>.int (i-j)):=wp fun _ _ _ _ _ _ _ q=>sub_int q
theorem pX:OpR X (binaryOp .Mult) (rI CMul fun i j=>.int (i*j)):=xK fun _ _ _ _ _ _ _ hc q=>mul_int q hc.ok
theorem qW:OpR X (binaryOp .FloorDiv) (rI CO fun i j=>.int (i / j)):=xK fun i j _ _ _ _ _ hc q=>by
 have h1:(0:Int)<j:=hc.1;have h2:j<1073741824:=hc.2;exact floordiv_int (by omega) (by rw [bP i (by omega)];exact q) (.inl (PyProof.noPylong_small (by omega)))
theorem kz:OpR X (binaryOp .Mod) (rI (fun _ j=>0<j) fun i j=>.int (i%j)):=xK fun i j _ _ _ _ _ hc q=>by
 have h1:(0:Int)<j:=hc;exact mod_int' (by omega) (by rw [bB i (by omega)];exact q)
theorem wl:OpR X (binaryOp .Mod) (rI (fun _ j=>j≠0) fun i j=>.int (i.fmod j)):=xK fun _ _ _ _ _ _ _ hc q=>mod_int' hc q
theorem ux:OpR X (binaryOp .Pow) (rI xv fun i j=>.int (i^j.toNat)):=xK fun _ _ _ _ _ _ _ hc q=>pow_int_small hc.1 hc.2.1 hc.2.2 q
theorem yN:OpR X (binaryOp .LShift) (rI xv fun i j=>.int (i*2^j.toNat)):=xK fun _ _ _ _ _ _ _ hc q=>lshift_int_small hc.1 hc.2.1 hc.2.2 q
theorem wR:OpR X (inplaceOp .Add) (tY fun i j=>.int (i+j)):=wp fun _ _ _ _ _ _ _ q=>iadd_int q
theorem wQ:OpR X (inplaceOp .Sub) (tY fun i j=>.int (i-j)):=wp fun _ _ _ _ _ _ _ q=>isub_int q
theorem Dd{f:Value->Sem Value}{g:Int->Int}
  (rule:∀(i:Int) (t:Tok) (s:Shared) (Q:Value->Shared->Prop) (E:Value->Shared->Prop),Q (.int (g i) s.toks) { s with toks:=s.toks+1 }->wpAny (model X.prog X.w) X.A (f (.int i t)) Q E s) :
  CH X f (rU fun i=>.int (g i)):=by
 intro pins s σ H x v Q I rx h;obtain⟨i,rfl,q⟩:=h;obtain⟨t,rfl⟩:=rx;exact rule i t s _ _ ⟨.int (g i),H,I.tok _,⟨_,rfl⟩,q⟩
theorem tI:CH X (unaryOp .USub) (rU fun i=>.int (-i)):=Dd fun _ _ _ _ _ q=>neg_int q
end
def yn:V->V->Bool
 | .non,.non=>true | .non,.int _=>true | .int _,.non=>true | .non,.bl _=>true | .bl _,.non=>true | .non,.str _=>true | .str _,.non=>true
 | .int _,.int _=>true | .bl _,.bl _=>true | .str _,.str _=>true | .byt _,.byt _=>true
 | .int _,.str _=>true | .str _,.int _=>true | .bl _,.str _=>true | .str _,.bl _=>true
 | _,_=>false
def Dn:R2:=fun x y H Q=>yn x y=true/\Q (.bl (decide (x=y))) H
def Dm:R2:=fun x y H Q=>yn x y=true/\Q (.bl (!decide (x=y))) H
theorem rL{i j:Int}:decide (V.int i=V.int j)=(i == j):=by
 rw [bf];simp
theorem u8{i j:Bool}:decide (V.bl i=V.bl j)=(i == j):=by
 rw [bf];simp
theorem rK{i j:Str}:decide (V.str i=V.str j)=(i == j):=by
 rw [bf];simp
theorem rM{i j:Array UInt8}:decide (V.byt i=V.byt j)=(i.toList == j.toList):=by
 rw [bf];cases i;cases j;simp
section
variable{X:Cx}{a b c:Expr}{ta tb tc:TE}{pos:Pos}
theorem iY{pins:List (Addr×Obj)}{σ:St}{H:Hp}{s:Shared}{Q:VK}{k k':Bool}(I:Inv X pins σ H s)(q:Q (.bl k) H)(e:k=k'):EP X pins σ Q (.bool k') s:=by
 subst e;exact⟨.bl k,H,I,rfl,q⟩
theorem oM:OpR X (compareOp .Eq) Dn:=by
 intro pins s σ H x y v u Q I rx ry h;obtain⟨hs,q⟩:=h;cases x with
 | non =>
  cases rx;cases y with
  | non=>cases ry;exact PySem.EqNone.eq_none_none (iY I q (by simp))
  | bl j=>cases ry;exact PySem.EqNone.eq_none_bool (iY I q (by simp))
  | int j=>obtain⟨t',rfl⟩:=ry;exact PySem.EqNone.eq_none_int (iY I q (by simp))
  | str j=>obtain⟨t',rfl⟩:=ry;exact PySem.EqNone.eq_none_str (iY I q (by simp))
  | _=>exact absurd (show false=true from hs) am
 | bl i =>
  cases rx;cases y with
  | non=>cases ry;exact PySem.EqNone.eq_bool_none (iY I q (by simp))
  | bl j=>cases ry;exact eq_bool (iY I q u8)
  | str j=>obtain⟨t',rfl⟩:=ry;exact PySem.EqMixed.eq_bool_str (iY I q (by simp))
  | _=>exact absurd (show false=true from hs) am
 | int i =>
  obtain⟨t,rfl⟩:=rx;cases y with
  | non=>cases ry;exact PySem.EqNone.eq_int_none (iY I q (by simp))
  | int j=>obtain⟨t',rfl⟩:=ry;exact eq_int (iY I q rL)
  | str j=>obtain⟨t',rfl⟩:=ry;exact PySem.EqMixed.eq_int_str (iY I q (by simp))
  | _=>exact absurd (show false=true from hs) am
 | str i =>
  obtain⟨t,rfl⟩:=rx;cases y with
  | non=>cases ry;exact PySem.EqNone.eq_str_none (iY I q (by simp))
  | bl j=>cases ry;exact PySem.EqMixed.eq_str_bool (iY I q (by simp))
  | int j=>obtain⟨t',rfl⟩:=ry;exact PySem.EqMixed.eq_str_int (iY I q (by simp))
  | str j=>obtain⟨t',rfl⟩:=ry;exact eq_str (iY I q rK)
  | _=>exact absurd (show false=true from hs) am
 | byt i =>
  obtain⟨t,rfl⟩:=rx;cases y with
  | byt j=>obtain⟨t',rfl⟩:=ry;exact PySem.W.eq_bytes (iY I q rM)
  | _=>exact absurd (show false=true from hs) am
 | _=>cases y <;> exact absurd (show false=true from hs) am
theorem uy:OpR X (compareOp .NotEq) Dm:=by
 intro pins s σ H x y v u Q I rx ry h;obtain⟨hs,q⟩:=h;cases x with
 | non =>
  cases rx;cases y with
  | non=>cases ry;exact PySem.EqNone.ne_none_none (iY I q (by simp))
  | bl j=>cases ry;exact PySem.EqNone.ne_none_bool (iY I q (by simp))
  | int j=>obtain⟨t',rfl⟩:=ry;exact PySem.EqNone.ne_none_int (iY I q (by simp))
  | str j=>obtain⟨t',rfl⟩:=ry;exact PySem.EqNone.ne_none_str (iY I q (by simp))
  | _=>exact absurd (show false=true from hs) am
 | bl i =>
  cases rx;cases y with
  | non=>cases ry;exact PySem.EqNone.ne_bool_none (iY I q (by simp))
  | bl j=>cases ry;exact ne_bool (iY I q (congrArg not u8))
  | str j=>obtain⟨t',rfl⟩:=ry;exact PySem.EqMixed.ne_bool_str (iY I q (by simp))
  | _=>exact absurd (show false=true from hs) am
 | int i =>
  obtain⟨t,rfl⟩:=rx;cases y with
  | non=>cases ry;exact PySem.EqNone.ne_int_none (iY I q (by simp))
  | int j=>obtain⟨t',rfl⟩:=ry;exact ne_int (iY I q (congrArg not rL))
  | str j=>obtain⟨t',rfl⟩:=ry;exact PySem.EqMixed.ne_int_str (iY I q (by simp))
  | _=>exact absurd (show false=true from hs) am
 | str i =>
  obtain⟨t,rfl⟩:=rx;cases y with
  | non=>cases ry;exact PySem.EqNone.ne_str_none (iY I q (by simp))
  | bl j=>cases ry;exact PySem.EqMixed.ne_str_bool (iY I q (by simp))
  | int j=>obtain⟨t',rfl⟩:=ry;exact PySem.EqMixed.ne_str_int (iY I q (by simp))
  | str j=>obtain⟨t',rfl⟩:=ry;exact ne_str (iY I q (congrArg not rK))
  | _=>exact absurd (show false=true from hs) am
 | byt i =>
  obtain⟨t,rfl⟩:=rx;cases y with
  | byt j=>obtain⟨t',rfl⟩:=ry;exact PySem.W.ne_bytes (iY I q (congrArg not rM))
  | _=>exact absurd (show false=true from hs) am
 | _=>cases y <;> exact absurd (show false=true from hs) am
theorem xH:OpR X (compareOp .Lt) (tY fun i j=>.bl (decide (i<j))):=wq fun _ _ _ _ _ _ _ q=>lt_int q
theorem AN:OpR X (compareOp .LtE) (tY fun i j=>.bl (decide (i<=j))):=wq fun _ _ _ _ _ _ _ q=>le_int q
theorem xI:OpR X (compareOp .Gt) (tY fun i j=>.bl (decide (j<i))):=wq fun _ _ _ _ _ _ _ q=>gt_int q
theorem xJ:OpR X (compareOp .GtE) (tY fun i j=>.bl (decide (j<=i))):=wq fun _ _ _ _ _ _ _ q=>ge_int q
theorem sx:OpR X (compareOp .In) (fun x y H Q=>∃ i j,x = .str i/\y = .str j/\Q (.bl (!(Builtin.Str.occurrences j i 0 j.length 1).isEmpty)) H):=by
 intro pins s σ H x y v u Q I rx ry h;obtain⟨i,j,rfl,rfl,q⟩:=h;obtain⟨t,rfl⟩:=rx;obtain⟨t',rfl⟩:=ry;exact in_str (iY I q rfl)
theorem yP:OpR X (compareOp .Is) (fun x y H Q=>y = .non/\Q (.bl (decide (x = .non))) H):=by
 intro pins s σ H x y v u Q I rx ry h;obtain⟨rfl,q⟩:=h;cases ry;refine is_none_gen (iY I q ?_);cases x <;> first
  | (cases rx;rfl)
  | (obtain⟨t,rfl⟩:=rx;rfl)
theorem we:OpR X (compareOp .IsNot) (fun x y H Q=>y = .non/\Q (.bl (!decide (x = .non))) H):=by
 intro pins s σ H x y v u Q I rx ry h;obtain⟨rfl,q⟩:=h;cases ry;refine isnot_none_gen (iY I q ?_);cases x <;> first
  | (cases rx;rfl)
  | (obtain⟨t,rfl⟩:=rx;rfl)
theorem nI:OpR X (compareOp .NotIn) (fun x y H Q=>∃ i j,x = .str i/\y = .str j/\Q (.bl (!(!(Builtin.Str.occurrences j i 0 j.length 1).isEmpty))) H):=by
 intro pins s σ H x y v u Q I rx ry h;obtain⟨i,j,rfl,rfl,q⟩:=h;obtain⟨t,rfl⟩:=rx;obtain⟨t',rfl⟩:=ry;exact notIn_str (iY I q rfl)
theorem jU(b:Expr){op:CmpOp}(h:op ≠ .In:=by decide)(h2:op ≠ .NotIn:=by decide):behindInMarks op b=false:=by
 have e1:(op == CmpOp.In)=false:=by cases op <;> first|rfl|exact absurd rfl h
 have e2:(op == CmpOp.NotIn)=false:=by cases op <;> first|rfl|exact absurd rfl h2
 cases b <;> simp [behindInMarks,e1,e2]
theorem lF{op:CmpOp}{r:R2}(ho:OpR X (compareOp op) r)(ha:PE X a ta)(hb:PE X b tb)(hm:behindInMarks op b=false):PE X (.Compare a [op] [b] pos) (Aj r ta tb):=by
 intro pins s σ H Q I h;exact wpAny_Compare1 (zD ha hb I h fun v u s2 x y H2 I2 rx ry q=>ho pins s2 σ H2 x y v u Q I2 rx ry q) hm
def tN(t:TE):TT:=fun σ H Q=>t σ H fun x H'=>∃ k,x = .bl k/\Q k H'
theorem jS{op:CmpOp}{r:R2}(ho:OpR X (compareOp op) r)(ha:PE X a ta)(hb:PE X b tb)(hm:behindInMarks op b=false):PT X (.Compare a [op] [b] pos) (tN (Aj r ta tb)):=by
 intro pins s σ H Q I h;refine wpAny_isTrue_Compare1 (ja (ha pins s σ H _ I h) fun v s1 ⟨x,H1,I1,r1,q1⟩=>ja (hb pins s1 σ H1 _ I1 q1) fun u s2 ⟨y,H2,I2,r2,q2⟩ =>
  ja (ho pins s2 σ H2 x y v u _ I2 r1 r2 q2) fun c s3 ⟨z,H3,I3,r3,k,e,q3⟩=>?_) hm
 subst e;cases r3;exact wpAny_truthy_bool ⟨H3,I3,q3⟩
def tO(r r':R2)(ta tb tc:TE):TE:=fun σ H Q=>ta σ H fun x H1=>tb σ H1 fun y H2=>r x y H2 fun z H3=>∃ k,z = .bl k /\
 (if k=true then tc σ H3 fun w' H4=>r' y w' H4 Q else Q (.bl false) H3)
theorem ug{op op':CmpOp}{r r':R2}(ho:OpR X (compareOp op) r)(ho':OpR X (compareOp op') r')(ha:PE X a ta)(hb:PE X b tb)(hc:PE X c tc)
  (hm:lastMarks [op,op'] [b,c]=false:=by with_unfolding_all rfl):PE X (.Compare a [op,op'] [b,c] pos) (tO r r' ta tb tc):=by
 intro pins s σ H Q I h;refine Compare_chain (ja (ha pins s σ H _ I h) fun v s1 ⟨x,H1,I1,r1,q1⟩=>chain_link (ja (hb pins s1 σ H1 _ I1 q1) fun u s2 ⟨y,H2,I2,r2,q2⟩ =>
  ja (ho pins s2 σ H2 x y v u _ I2 r1 r2 q2) fun d s3 ⟨z,H3,I3,r3,k,e,q3⟩=>?_)) hm
 subst e;cases r3;refine wpAny_truthy_bool ?_;cases k with
 | false=>exact ite_ff ⟨.bl false,H3,I3,rfl,q3⟩
 | true=>exact ite_tt (chain_last (ja (hc pins s3 σ H3 _ I3 q3) fun w' s4 ⟨z',H4,I4,r4,q4⟩=>ho' pins s4 σ H4 y z' u w' Q I4 r2 r4 q4))
theorem t3{op op':CmpOp}{r r':R2}(ho:OpR X (compareOp op) r)(ho':OpR X (compareOp op') r')(ha:PE X a ta)(hb:PE X b tb)(hc:PE X c tc)
  (hm:lastMarks [op,op'] [b,c]=false:=by with_unfolding_all rfl):PT X (.Compare a [op,op'] [b,c] pos) (tN (tO r r' ta tb tc)):=by
 intro pins s σ H Q I h;refine isTrue_chain (ja (ha pins s σ H _ I h) fun v s1 ⟨x,H1,I1,r1,q1⟩=>test_link (ja (hb pins s1 σ H1 _ I1 q1) fun u s2 ⟨y,H2,I2,r2,q2⟩ =>
  ja (ho pins s2 σ H2 x y v u _ I2 r1 r2 q2) fun d s3 ⟨z,H3,I3,r3,k,e,q3⟩=>?_)) hm
 subst e;cases r3;refine wpAny_truthy_bool ?_;cases k with
 | false =>
  obtain⟨k',e',q'⟩:=q3;cases e';exact ite_ff ⟨H3,I3,q'⟩
 | true =>
  refine ite_tt (test_last (ja (hc pins s3 σ H3 _ I3 q3) fun w' s4 ⟨z',H4,I4,r4,q4⟩=>ja (ho' pins s4 σ H4 y z' u w' _ I4 r2 r4 q4) fun d' s5 ⟨z2,H5,I5,r5,k2,e2,q5⟩=>?_));subst e2;cases r5;exact wpAny_truthy_bool ⟨H5,I5,q5⟩
def zK(K:Frag)(x:V)(H:Hp)(k:Bool):Prop :=
 match x with
 | .non=>k=false
 | .bl b=>k=b
 | .int i=>k=(i != 0)
 | .str y=>y.length<=sizeLine/\k=((y.length:Int) != 0)
 | .byt y=>y.size<=sizeLine/\k=((y.size:Int) != 0)
 | .ref p=>(∃ xs,SqL K H p xs/\k = !xs.isEmpty)\/(∃ xs,SqT K H p xs/\k = !xs.isEmpty)\/∃ kvs,H p=some (.dK kvs)/\k = !kvs.isEmpty
 | _=>False
theorem ql{κ:Type}{kvs:List (κ×V)}{vs:List (κ×Value)}(r:KV kvs vs):(!vs.isEmpty) = !kvs.isEmpty:=by
 cases r <;> rfl
theorem l8{xs:List V}{its:List Value}(r:Vals xs its):(!its.toArray.isEmpty) = !xs.isEmpty:=by
 cases r <;> simp
theorem jL:(sizeLine:Nat)<2^63:=by rw [sizeLine_eq];decide
theorem yb:CI X (fun x H Q=>∃ k,zK X.K x H k/\Q k H):=by
 intro pins s σ H x v Q I rx h;obtain⟨k,e,q⟩:=h;have hl:=jL;have hs:sizeLine=16777216:=sizeLine_eq;cases x with
 | non =>
  cases rx;have e':k=false:=e;subst e';exact truthy_none ⟨H,I,q⟩
 | bl b =>
  cases rx;have e':k=b:=e;subst e';exact wpAny_truthy_bool ⟨H,I,q⟩
 | int i =>
  obtain⟨t,rfl⟩:=rx;have e':k=(i != 0):=e;subst e';exact PySem.P.truthy_int ⟨H,I,q⟩
 | str y =>
  obtain⟨t,rfl⟩:=rx;obtain⟨hy,e'⟩:y.length<=sizeLine/\k=((y.length:Int) != 0):=e;subst e';exact PySem.P.truthy_str (by omega) ⟨H,I.tok _,q⟩
 | byt y =>
  obtain⟨t,rfl⟩:=rx;obtain⟨hy,e'⟩:y.size<=sizeLine/\k=((y.size:Int) != 0):=e;subst e';exact PySem.W.truthy_bytes (by omega) ⟨H,I.tok _,q⟩
 | ref p =>
  cases rx;have e':(∃ xs,SqL X.K H p xs/\k = !xs.isEmpty)\/(∃ xs,SqT X.K H p xs/\k = !xs.isEmpty)\/∃ kvs,H p=some (.dK kvs)/\k = !kvs.isEmpty:=e;rcases e' with⟨xs,hx,e'⟩|⟨xs,hx,e'⟩|⟨kvs,hx,e'⟩
  ·subst e';obtain⟨its,r,pl,hz⟩:=I.list hx;have hlen:=r.length;exact wpAny_truthy_list pl.isList (by simp only [af];omega) ⟨H,I.tok _,by rw [l8 r];exact q⟩
  ·subst e';obtain⟨its,r,pl,hz⟩:=I.tuple hx;have hlen:=r.length;exact truthy_tuple pl (by simp only [af];omega) ⟨H,I.tok _,by rw [l8 r];exact q⟩
  ·subst e';obtain⟨hz,hS,vs,r,m⟩:kvs.length<=sizeLine/\(p == sysModules)=false/\∃ vs,KV kvs vs/\s.heap.DictOf (i8 X.prog X.w) p vs:=I.hok p _ hx;have hlen:kvs.length=vs.length:=Paired.length r;exact wpAny_truthy_dict hS m (by omega) ⟨H,I.tok _,by rw [ql r];exact q⟩
 | _=>exact (show False from e).elim
theorem oI(ha:PE X a ta)(he:∀ whole,isTrue a X.env whole=(do let v ← whole;standAt a.pos;holding [v] (truthy v))) :
  PT X a (fun σ H Q=>ta σ H fun x H'=>∃ k,zK X.K x H' k/\Q k H'):=by
 intro pins s σ H Q I h;exact isTrue_plain (ja (ha pins s σ H _ I h) fun v s1 ⟨x,H1,I1,r1,q1⟩=>yb pins s1 σ H1 x v Q I1 r1 q1) (he _)
theorem pY:OpR X (binaryOp .Add) (fun x y H Q=>∃ i j,x = .str i/\y = .str j/\i.length+j.length<=sizeLine/\Q (.str (i++j)) H):=by
 intro pins s σ H x y v u Q I rx ry h;obtain⟨i,j,rfl,rfl,hz,q⟩:=h;obtain⟨t,rfl⟩:=rx;obtain⟨t',rfl⟩:=ry;exact add_str (fun t' tk=>⟨.str (i++j),H,I.tok _,⟨_,rfl⟩,q⟩) hz
theorem oU:OpR X (inplaceOp .Add) (fun x y H Q=>∃ i j,x = .str i/\y = .str j/\i.length+j.length<=sizeLine/\Q (.str (i++j)) H):=by
 intro pins s σ H x y v u Q I rx ry h;obtain⟨i,j,rfl,rfl,hz,q⟩:=h;obtain⟨t,rfl⟩:=rx;obtain⟨t',rfl⟩:=ry;exact iadd_str (fun t' tk=>⟨.str (i++j),H,I.tok _,⟨_,rfl⟩,q⟩) hz
theorem lr{x:V}{us:List Value}(r:Vals [x] us):∃ u,us=[u]/\RelV x u:=by
 cases r with
 | cons r1 r2=>cases r2;exact⟨_,rfl,r1⟩
theorem zZ{x y:V}{us:List Value}(r:Vals [x,y] us):∃ u w',us=[u,w']/\RelV x u/\RelV y w':=by
 cases r with
 | cons r1 r2 =>
  cases r2 with
  | cons r3 r4=>cases r4;exact⟨_,_,rfl,r1,r3⟩
theorem vg:CallR X (.builtin "abs") (fun xs H Q=>∃ i,xs=[.int i]/\Q (.int (if i<0 then -i else i)) H):=by
 intro pins s σ H xs us Q I r h;obtain⟨i,rfl,q⟩:=h;obtain⟨u,rfl,t,rfl⟩:=lr r;exact call_abs_int fun u tk=>⟨.int (if i<0 then -i else i),H,I.tok _,⟨_,rfl⟩,q⟩
theorem tf(hc:X.calm=true):CallR X (.builtin "max") (fun xs H Q=>∃ i j,xs=[.int i,.int j]/\Q (.int (if j > i then j else i)) H):=by
 intro pins s σ H xs us Q I r h;obtain⟨i,j,rfl,q⟩:=h;obtain⟨u,w',rfl,⟨t,rfl⟩,⟨t',rfl⟩⟩:=zZ r;refine max_two_ints (I.ok.hd hc) fun h' tk k=>⟨_,H,I.kept k,?_,q⟩;by_cases hj:j > i
 ·rw [if_pos hj,if_pos hj];exact⟨_,rfl⟩
 ·rw [if_neg hj,if_neg hj];exact⟨_,rfl⟩
theorem tm:CallR X (.type "int") (fun xs H Q=>(∃ i,xs=[.int i]/\Q (.int i) H)\/∃ k,xs=[.bl k]/\Q (.int (if k then 1 else 0)) H):=by
 intro pins s σ H xs us Q I r h;rcases h with⟨i,rfl,q⟩|⟨k,rfl,q⟩
 ·obtain⟨u,rfl,t,rfl⟩:=lr r;exact call_int_int ⟨.int i,H,I,⟨_,rfl⟩,q⟩
 ·obtain⟨u,rfl,r1⟩:=lr r;cases r1;exact call_int_bool ⟨.int (if k then 1 else 0),H,I.tok _,⟨_,rfl⟩,q⟩
end
end L2
namespace L2
open PySem PySem.Spec PyProof.Rows
structure ObjM (h:Heap)(x dx C:Addr)(mA:Str->Option Value):Prop where
 obj:h.get? x=some (PySem.W.instObj C dx)
 ns:h.Ns1 dx mA
 ne:dx≠x
theorem mU{h:Heap}{dx:Addr}{mA:Str->Option Value}(n:h.Ns1 dx mA):∃ od,h.get? dx=some od/\∀ name,PySem.W.lookIn name od=some (mA name):=by
 obtain⟨o,es,ep,ho,hd,hk,_,hm⟩:=n;refine⟨o,ho,fun name=>?_⟩;have e:=hm name;unfold nsFind findBy at e;rw [← Array.find?_toList] at e;unfold PySem.W.lookIn;rw [hd];dsimp only;split
 ·rename_i y q;rw [q] at e;exact congrArg some e
 ·rename_i q;rw [q] at e;have a:es.toList.any (·.refKey)=false:=by
   rw [cV];intro y hy;obtain⟨z,t,hkey⟩:=hk y (Array.mem_toList_iff.mp hy);simp [DictEntry.refKey,hkey]
  have a':¬ es.toList.any (·.refKey)=true:=by rw [a];exact am
  rw [if_neg a'];exact congrArg some e
theorem ObjM.look{h:Heap}{x dx C:Addr}{mA:Str->Option Value}(I:ObjM h x dx C mA):∃ od,PySem.W.InstAt h x (PySem.W.instObj C dx) C (some od)/\∀ name,PySem.W.lookIn name od=some (mA name) :=
 let ⟨od,ho,hl⟩:=mU I.ns
 ⟨od,⟨I.obj,rfl,rfl,ho⟩,hl⟩
theorem RelO.some_of{v:V}{o:Option Value}(r:RelO (some v) o):∃ u,o=some u/\RelV v u:=by
 cases o with
 | none=>exact (show False from r).elim
 | some u=>exact⟨u,rfl,r⟩
theorem sU{v:V}{u:Value}(r:RelV v u):PySem.W.handedIn u=true:=by
 cases v with
 | non=>cases (show u=Value.none from r);rfl
 | bl b=>cases (show u=Value.bool b from r);rfl
 | int i=>obtain⟨t,e⟩:=(show ∃ t,u=Value.int i t from r);cases e;rfl
 | str x=>obtain⟨t,e⟩:=(show ∃ t,u=Value.str x t from r);cases e;rfl
 | byt b=>obtain⟨t,e⟩:=(show ∃ t,u=Value.bytes b t from r);cases e;rfl
 | flt b=>obtain⟨t,e⟩:=(show ∃ t,u=Value.float b t from r);cases e;rfl
 | ref a=>cases (show u=Value.ref a from r);rfl
 | ty n=>cases (show u=Value.type n from r);rfl
section
variable{P:Program}{w:World}{H H':Hp}{h h':Heap}{a C dx:Addr}{fs fs':List (Str×V)}
theorem wT(hok:HOk P w H h)(e:H a=some (.ins C dx fs)):∃ mA,ObjM h a dx C mA/\(∀ f,RelO (fs.lookup f) (mA f))/\PySem.Within mA (fs.map (·.1))/\fs.length<=1000/\H dx=some (.own a):=by
 obtain⟨d,z,ne,ob,mA,n,r,q⟩:=(show ObjOk P w H h a (.ins C dx fs) from hok a _ e);exact⟨mA,⟨ob,n,ne⟩,r,q,z,d⟩
end
structure Cls (K:Frag)(C:Addr):Prop where
 pg:PySem.W.plainGet K C Str.empty=true
 hd:PySem.W.hasDictIn K C=true
 po:PySem.W.plainOver K C=true
 sa:PySem.W.findIn K (.ref C) "__setattr__" = some (some (.builtin "object.__setattr__"))
theorem Cls.get{K:Frag}{C:Addr}(c:Cls K C)(f:Str):PySem.W.plainGet K C f=true:=c.pg
def lq(K:Frag)(C:Addr)(f:Str):Prop:=PySem.W.findIn K (.ref C) f=some none
section
variable{X:Cx}{pins:List (Addr×Obj)}{σ:St}{H:Hp}{s:Shared}{a C dx:Addr}{fs:List (Str×V)}{f:Str}{v:V}{A:Around}{E:Value->Shared->Prop}
theorem xk{prog:Program}{w:World}{env:Env}{e:Expr}{f:Str}{pos:Pos}{s:Shared}{Q:Value->Shared->Prop}(hb:attributeBase e f env (eval e env)=eval e env)
  (h:wpAny (model prog w) A (eval e env) (fun o s₁=>wpAny (model prog w) A (getAttr o f true) Q E s₁) E s):wpAny (model prog w) A (eval (.Attribute e f pos) env) Q E s :=
 Attribute_any_ h (by rw [arm_eval_Attribute,hb])
end
section
variable{X:Cx}{pins:List (Addr×Obj)}{σ:St}{H:Hp}{s:Shared}{A:Around}{E:Value->Shared->Prop}{Q:Value->Shared->Prop}{c:Value}{b:Bool}
inductive TyOf (K:Frag) (H:Hp):V->Value->Prop where
 | non:TyOf K H .non (.type "NoneType")
 | bl (x:Bool):TyOf K H (.bl x) (.type "bool")
 | int (i:Int):TyOf K H (.int i) (.type "int")
 | str (x:Str):TyOf K H (.str x) (.type "str")
 | flt (x:UInt64):TyOf K H (.flt x) (.type "float")
 | lst {a:Addr} {xs:List V} (e:H a=some (.lst xs)):TyOf K H (.ref a) (.type "list")
 | frz {a:Addr} {o:Obj} {xs:List V} (e:H a=some (.frz o (.lst xs))):TyOf K H (.ref a) (.type "list")
 | tup {a:Addr} {xs:List V} (e:H a=some (.tup xs)):TyOf K H (.ref a) (.type "tuple")
 | dK {a:Addr} {kvs:List (jb×V)} (e:H a=some (.dK kvs)):TyOf K H (.ref a) (.type "dict")
 | dT {a:Addr} {kvs:List (List jb×V)} (e:H a=some (.dT kvs)):TyOf K H (.ref a) (.type "dict")
 | ins {a C dx:Addr} {fs:List (Str×V)} (e:H a=some (.ins C dx fs)) (cl:Cls K C) (ha:PySem.W.findIn K (.ref C) "__class__" = some (some (.builtin "object.__class__")))
   (hn:PySem.W.specialIn K (.builtin "object.__class__") "__get__" = some (some (.builtin "getset_descriptor.__get__"))) (htk:PySem.W.takesIn K (.builtin "object.__class__")=some true)
   (hm:PySem.W.mroIn K C (.type "object")=some true):TyOf K H (.ref a) (.ref C)
theorem sO{x:V}{u t:Value}(I:Inv X pins σ H s)(rx:RelV x u)(ty:TyOf X.K H x t)(e:PySem.W.kitOne X.K t c=some b)(h:∀ tk,Q (.bool b) { s with toks:=tk }) :
  wpAny (model X.prog X.w) A (call (.builtin "isinstance") [u,c]) Q E s:=by
 cases ty with
 | non=>cases (show u=Value.none from rx);exact PySem.W.kia_one PySem.W.kitx_none I.kIn True.intro e (fun z=>nomatch z) h
 | bl y=>cases (show u=Value.bool y from rx);exact PySem.W.kia_one PySem.W.kitx_bool I.kIn True.intro e (fun z=>nomatch z) h
 | int i=>obtain⟨t,q⟩:=(show ∃ t,u=Value.int i t from rx);cases q;exact PySem.W.kia_one PySem.W.kitx_int I.kIn True.intro e (fun z=>nomatch z) h
 | str y=>obtain⟨t,q⟩:=(show ∃ t,u=Value.str y t from rx);cases q;exact PySem.W.kia_one PySem.W.kitx_str I.kIn True.intro e (fun z=>nomatch z) h
 | flt y=>obtain⟨t,q⟩:=(show ∃ t,u=Value.float y t from rx);cases q;exact PySem.W.kia_one PySem.W.kitx_float I.kIn True.intro e (fun z=>nomatch z) h
 | @lst a xs ea =>
  cases (show u=Value.ref a from rx);obtain⟨_,_,n,_,h1⟩:=(show ObjOk X.prog X.w H s.heap a (.lst xs) from I.hok a _ ea);exact PySem.W.kia_one PySem.W.kitx_list I.kIn ⟨_,h1,rfl⟩ e (fun z=>nomatch z) h
 | @frz a ob xs ea =>
  cases (show u=Value.ref a from rx);obtain⟨_,_,_,n,_,h1⟩:=(show ObjOk X.prog X.w H s.heap a (.frz ob (.lst xs)) from I.hok a _ ea);exact PySem.W.kia_one PySem.W.kitx_list I.kIn ⟨_,h1,rfl⟩ e (fun z=>nomatch z) h
 | @tup a xs ea =>
  cases (show u=Value.ref a from rx);obtain⟨_,_,_,p⟩:=(show ObjOk X.prog X.w H s.heap a (.tup xs) from I.hok a _ ea);obtain⟨o,h1,h2,_⟩:=p;exact PySem.W.kia_one PySem.W.kitx_tuple I.kIn ⟨o,h1,h2⟩ e (fun z=>nomatch z) h
 | @dK a kvs ea =>
  cases (show u=Value.ref a from rx);obtain⟨_,_,vs,_,p⟩:=(show ObjOk X.prog X.w H s.heap a (.dK kvs) from I.hok a _ ea);obtain⟨o,es,ep,h1,h2,_⟩:=p;exact PySem.W.kia_one PySem.W.kitx_dict I.kIn ⟨o,h1,h2.1⟩ e (fun z=>nomatch z) h
 | @dT a kvs ea =>
  cases (show u=Value.ref a from rx);obtain⟨_,_,xs,_,o,es,ep,h1,h2,_⟩:=(show ObjOk X.prog X.w H s.heap a (.dT kvs) from I.hok a _ ea);exact PySem.W.kia_one PySem.W.kitx_dict I.kIn ⟨o,h1,h2.1⟩ e (fun z=>nomatch z) h
 | @ins a C dx fs ea cl ha hn htk hm =>
  cases (show u=Value.ref a from rx);obtain⟨mA,O,_⟩:=wT I.hok ea;obtain⟨od,J,_⟩:=O.look;exact PySem.W.kia_one (PySem.W.kitx_own (cl.get _) cl.hd ha hn htk hm) I.kIn J e (fun z=>nomatch z) h
end
end L2
namespace L2
open PySem PySem.Spec PyProof.Rows
structure Room (k:Nat)(A:Around):Prop where
 hd:A.handled=none
 dp:A.depth+3*k+105<recursionLimit
 un:A.units+16*k+200<cLine
theorem Room.mono{j k:Nat}{A:Around}(r:Room k A)(h:j<=k):Room j A:=⟨r.hd,by have:=r.dp;omega,by have:=r.un;omega⟩
theorem Room.deeper{k:Nat}{A:Around}(r:Room (k+1) A)(env:Env):Room k (A.deeper env) :=
 ⟨r.hd,by have:=r.dp;show A.depth+1+3*k+105<_;omega,by have:=r.un;show A.units+3+16*k+200<_;omega⟩
theorem qg{A:Around}{C:Addr}{us:List Value}{kw:List (Str×Value)}:(A.under (.builtin "type.__call__" ⟨.ref C::us,kw⟩)).depth=A.depth+1:=by
 first|rfl|simp [Around.under,Code.weight,Code.isCreation,Code.isGuard,Code.isCaller,Code.frames,Code.isFrame,guardIds]
theorem qf{A:Around}{C:Addr}{us:List Value}{kw:List (Str×Value)}:(A.under (.builtin "type.__call__" ⟨.ref C::us,kw⟩)).units=A.units+1:=by
 first|rfl|simp [Around.under,Code.cUnits,Code.frames,Code.isFrame]
theorem Room.make{k:Nat}{A:Around}(r:Room (k+1) A)(C:Addr)(us:List Value)(kw:List (Str×Value)):Room k (A.under (.builtin "type.__call__" ⟨.ref C::us,kw⟩)) :=
 ⟨r.hd,by have:=r.dp;rw [qg];omega,by have:=r.un;rw [qf];omega⟩
theorem Room.depth{k:Nat}{A:Around}(r:Room k A):A.depth<recursionLimit:=by have:=r.dp;omega
theorem Room.units{k:Nat}{A:Around}(r:Room k A):A.units+64<cLine:=by have:=r.un;omega
theorem Room.units0{k:Nat}{A:Around}(r:Room k A):A.units<cLine:=by have:=r.un;omega
def vK:TA:=fun _ H Q=>Q [] H
def mG(ta:TE)(tr:TA):TA:=fun σ H Q=>ta σ H fun x H1=>tr σ H1 fun xs H2=>Q (x::xs) H2
section
variable{X:Cx}{e:Expr}{es:List Expr}{te:TE}{t:TA}{pos:Pos}
theorem pa_nil:PA X [] vK:=fun _ _ _ _ H Q I h=>Calls.spliced_nil ⟨[],H,I,.nil,h⟩
theorem iS(ha:PE X e te)(hr:PA X es t)(hs:starEach (e::es) X.env=(false,eval e X.env)::starEach es X.env:=by rfl):PA X (e::es) (mG te t):=by
 intro pos pins s σ H Q I h;rw [hs];show wpAny _ _ (spliced ((false,eval e X.env)::backTo pos (starEach es X.env))) _ _ s;refine Calls.spliced_cons (ja (ha pins s σ H _ I h) fun u s1 ⟨x,H1,I1,r1,q1⟩=>?_);exact ja (hr pos pins s1 σ H1 _ I1 q1) fun us s2 ⟨xs,H2,I2,r2,q2⟩=>⟨x::xs,H2,I2,.cons r1 r2,q2⟩
def BQ(t:TA):TE:=fun σ H Q=>t σ H fun xs H1=>xs.length<=sizeLine/\∀ p,H1 p=none->Q (.ref p) (i6 H1 p (.tup xs))
def BV(t:TA):TE:=fun σ H Q=>t σ H fun xs H1=>xs.length<=sizeLine/\∀ p,H1 p=none->Q (.ref p) (i6 H1 p (.lst xs))
theorem pT{x1}(h:PA X es t):PE X (.Tuple es x1 pos) (BQ t):=by
 intro pins s σ H Q I hq;refine wpAny_Tuple_spliced (ja (h pos pins s σ H _ I hq) fun us s1 ⟨xs,H1,I1,r,z,q⟩=>⟨by rw [← r.length];exact z,?_⟩);have hf:H1 s1.heap.objs.size=none:=I1.hok.fresh (ai _);refine⟨.ref s1.heap.objs.size,i6 H1 s1.heap.objs.size (.tup xs),I1.laid (t':=s1.toks) (fun b u e=>Heap.get?_push_of_some _ e) (ai _) ?_,rfl,q _ hf⟩;exact⟨z,us,r,⟨_,Heap.get?_push_size _ rfl,rfl,_,rfl⟩⟩
theorem pV(h:PA X es t):PE X (.List es pos) (BV t):=by
 intro pins s σ H Q I hq;refine wpAny_List_spliced (ja (h pos pins s σ H _ I hq) fun us s1 ⟨xs,H1,I1,r,z,q⟩=>⟨by rw [← r.length];exact z,?_⟩);have hf:H1 s1.heap.objs.size=none:=I1.hok.fresh (ai _);refine⟨.ref s1.heap.objs.size,i6 H1 s1.heap.objs.size (.lst xs),I1.laid (t':=s1.toks) (fun b u e=>Heap.get?_push_of_some _ e) (ai _) ?_,rfl,q _ hf⟩;exact⟨z,us,0,r,Heap.get?_push_size _ rfl⟩
end
abbrev Sp:=List V->Hp->VK->XK->Prop
abbrev qH:=List Env->Hp->Shared->XK->Value->Shared->Prop
structure Env0 (P:Program)(w:World)(K:Frag)(mg:Str->Option Value)(base:Heap)(A:Around)(outer:List Env)(s:Shared)(H:Hp):Prop where
 frames:A.frames=some outer
 mod:Mod K mg base
 bs:∀ b o,base.get? b=some o->s.heap.get? b=some o/\H b=none
 bsz:base.objs.size<=s.heap.objs.size
 funs:s.heap.FunFrames base outer
 frf:∀ b∈pe outer,H b=none
 hok:HOk P w H s.heap
 bare:AllBare s.gens
 sr:base.NoSeer/\P.given.tree=none
def CE(outer:List Env)(P:Program)(w:World)(H:Hp)(s:Shared)(Q:VK)(u:Value)(s':Shared):Prop :=
 ∃ v H',s'.os=s.os/\AllBare s'.gens/\Un (pe outer) [] H H' s.heap s'.heap/\HOk P w H' s'.heap/\RelV v u/\Q v H'
def CR(CX:qH)(outer:List Env)(P:Program)(w:World)(H:Hp)(s:Shared)(Q:VK)(E:XK)(r:Result)(s':Shared):Prop :=
 match r with
 | .ok (.ret u)=>CE outer P w H s Q u s'
 | .ok _=>False
 | .error e=>CX outer H s E e s'
structure FnOk (P:Program)(w:World)(K:Frag)(mg:Str->Option Value)(base:Heap)(CX:qH)(k:Nat)(f:Addr)(fd:FuncData)(ps:List Str)(sp:Sp):Prop where
 len:∀ vs H Q E,sp vs H Q E->vs.length=ps.length
 run:∀(A:Around) (outer:List Env) (s:Shared) (H:Hp) (args:Args) (us:List Value) (vs:List V) (Q:VK) (E:XK),Room k A->Env0 P w K mg base A outer s H->BindsTo s fd args (ps.zip us)->Vals vs us->sp vs H Q E ->
  codeAny (model P w) A (.call (.ref f) args) (CR CX outer P w H s Q E) s
theorem FnOk.imp{P:Program}{w:World}{K:Frag}{mg:Str->Option Value}{base:Heap}{CX:qH}{k:Nat}{f:Addr}{fd:FuncData}{ps:List Str}{sp sp':Sp}(F:FnOk P w K mg base CX k f fd ps sp)
  (h:∀ vs H Q E,sp' vs H Q E->sp vs H Q E):FnOk P w K mg base CX k f fd ps sp' :=
 ⟨fun vs H Q E q=>F.len vs H Q E (h _ _ _ _ q),fun A outer s H args us vs Q E hr he hb hv hs=>F.run A outer s H args us vs Q E hr he hb hv (h _ _ _ _ hs)⟩
theorem Env0.make{P:Program}{w:World}{K:Frag}{mg:Str->Option Value}{base:Heap}{A:Around}{outer:List Env}{s:Shared}{H:Hp}(e:Env0 P w K mg base A outer s H)(C:Addr)(us:List Value)(kw:List (Str×Value)) :
  Env0 P w K mg base (A.under (.builtin "type.__call__" ⟨.ref C::us,kw⟩)) outer s H:=⟨by first|exact e.frames|(simpa [Around.under,Code.envs,Code.isFrame,pushEnvs] using e.frames),e.mod,e.bs,e.bsz,e.funs,e.frf,e.hok,e.bare,e.sr⟩
section
variable{X:Cx}{pins:List (Addr×Obj)}{σ:St}{H:Hp}{s s':Shared}
theorem Inv.env0(I:Inv X pins σ H s):Env0 X.prog X.w X.K X.mg X.base X.A X.stack s H :=
 ⟨I.ok.frames,I.ok.mod,I.bs,az I.ok.bsz I.sz,I.stack,I.stkFree,I.hok,I.bare,I.ok.sr⟩
theorem Inv.after{Q:VK}{u:Value}(I:Inv X pins σ H s)(h:CE X.stack X.prog X.w H s Q u s'):EP X pins σ Q u s':=by
 obtain⟨v,H',os,bare,un,hok,r,q⟩:=h;obtain⟨hh,g,d,t,os'⟩:=s';obtain rfl:os'=s.os:=os;exact⟨v,H',I.call (h':=hh) (g':=g) (d':=d) (t':=t) (ch:=[]) un hok bare (fun b z=>absurd z (by simp)),r,q⟩
end
def kK(sp:Sp)(dvs:List V)(E:XK)(t:TA):TE:=fun σ H Q=>t σ H fun vs H1=>sp (vs++dvs) H1 Q E
def Binds(K:Frag)(fd:FuncData)(ps:List Str)(ds:List Value):Prop :=
 ∀(s:Shared) (us:List Value),K.In s.heap->(us++ds).length=ps.length->BindsTo s fd ⟨us,[]⟩ (ps.zip (us++ds))
theorem Binds.all{K:Frag}{fd:FuncData}{ps:List Str}(h:∀ us:List Value,us.length=ps.length->bindArgs fd ⟨us,[]⟩=pure (ps.zip us)):Binds K fd ps []:=fun s us _ hl=>by
 rw [aL] at hl ⊢;exact .of_eq (h us hl)
def kE(CX:qH)(X:Cx)(E:XK):Prop:=∀(pins:List (Addr×Obj)) (σ:St) (H:Hp) (s:Shared) (e:Value) (s':Shared),Inv X pins σ H s->CX X.stack H s E e s'->X.xe e s'
section
variable{X:Cx}{CX:qH}{k:Nat}{f C:Addr}{fd:FuncData}{ps:List Str}{sp:Sp}{dvs:List V}{ds:List Value}{E:XK}{x m:Str}{p pos apos:Pos}{e o:Expr}{es:List Expr}{ta:TE}{t:TA}
theorem yp{pins:List (Addr×Obj)}{σ:St}{H:Hp}{s:Shared}{Q:VK}{us:List Value}{vs:List V}(F:FnOk X.prog X.w X.K X.mg X.base CX k f fd ps sp)(hr:Room k X.A)(hb:Binds X.K fd ps ds)(hd:Vals dvs ds)(hx:kE CX X E)
  (I:Inv X pins σ H s) (r:Vals vs us) (h:sp (vs++dvs) H Q E):wpAny (model X.prog X.w) X.A (call (.ref f) us) (EP X pins σ Q) X.xe s:=by
 have r2:Vals (vs++dvs) (us++ds):=r.append hd;have hl:(us++ds).length=ps.length:=by rw [← r2.length];exact F.len _ _ _ _ h
 refine wpAny_call (codeAny_mono (F.run X.A X.stack s H ⟨us,[]⟩ (us++ds) (vs++dvs) Q E hr I.env0 (hb s us I.kIn hl) r2 h) fun r s' hq=>?_);cases r with
 | error e=>exact hx pins σ H s e s' I hq
 | ok fl =>
  cases fl with
  | ret u=>exact I.after hq
  | next=>exact False.elim hq
  | brk=>exact False.elim hq
  | cont=>exact False.elim hq
theorem qU(F:FnOk X.prog X.w X.K X.mg X.base CX k f fd ps sp)(hr:Room k X.A)(hg:Gl X x)(hm:X.mg x=some (.ref f))(hk:PySem.W.keepIn X.K (.ref f)=true)(hb:Binds X.K fd ps ds)(hd:Vals dvs ds)(hx:kE CX X E)
  (ha:PA X (e::es) t) (hdb:(x == ("__debug__" : Str))=false:=by decide) (he:starEach (e::es) X.env=(false,eval e X.env)::starEach es X.env:=by rfl) (hpl:(backTo pos (starEach es X.env)).any (·.1)=false:=by rfl) :
  PE X (.Call (.Name x p) (e::es) [] pos) (kK sp dvs E t):=by
 intro pins s σ H Q I h;refine wpAny_Call_Name_kw (kj I hg hm ?_ hdb);refine PySem.W.callWith_K (h₀:=X.base) I.ok.mod.kin hk (ja (ha pos pins s σ H _ I h) fun us s1 ⟨vs,H1,I1,r,q⟩=>⟨I1.kIn,?_⟩) he hpl;exact yp F hr hb hd hx I1 r q
end
structure FnScope (N P:List Str)(sc:Scope):Prop where
 kind:sc.kind = .function
 co:sc.isCoroutine=false
 gen:sc.isGenerator=false
 nd:N.Nodup
 pre:N.take P.length=P
 par:∀ x∈P,sc.names.lookup x=some .local\/sc.names.lookup x=some .cell
 nofree:∀ y∈sc.names,y.2 ≠ .free
theorem ni{kindOf:Str->Option NameKind}{x:Str}:∀{binds:List (Str×Value)} {m:Str->Option Value},(∀ v,(x,v) ∉ binds)->bindL kindOf binds m x=m x
 | [],_,_=>rfl
 | (n,v)::r,m,h=>by
  unfold bindL;rw [ni fun w hw=>h w (ar _ hw)];split
  ·have:x≠n:=by rintro rfl;exact h v av
   simp [this]
  ·rfl
theorem nk{kindOf:Str->Option NameKind}{x:Str}:∀{binds:List (Str×Value)} {m:Str->Option Value},(∀ v,(x,v) ∉ binds)->bindC kindOf binds m x=m x
 | [],_,_=>rfl
 | (n,v)::r,m,h=>by
  unfold bindC;rw [nk fun w hw=>h w (ar _ hw)];split
  ·rfl
  ·have:x≠n:=by rintro rfl;exact h v av
   simp [this]
theorem nj{kindOf:Str->Option NameKind}{x:Str}{v:Value}:∀{P:List Str} {vs:List Value} {i:Nat} {m:Str->Option Value},P.Nodup->P[i]? = some x->vs[i]? = some v->kindOf x=some .local ->
  bindL kindOf (P.zip vs) m x=some v
 | [],_,_,_,_,h,_,_=>by simp at h
 | _::_,[],_,_,_,_,h,_=>by simp at h
 | p::P,w::vs,0,m,nd,h1,h2,hk=>by
  simp at h1 h2;subst h1;subst h2;show bindL kindOf ((p,w)::P.zip vs) m p=_;unfold bindL;rw [ni fun v hv=>(bt.mp nd).1 (bW hv).1,if_pos hk];simp
 | p::P,w::vs,i+1,m,nd,h1,h2,hk=>by
  show bindL kindOf ((p,w)::P.zip vs) m x=_;unfold bindL;exact nj (i:=i) (bt.mp nd).2 (by simpa using h1) (by simpa using h2) hk
theorem nq{kindOf:Str->Option NameKind}{x:Str}{v:Value}:∀{P:List Str} {vs:List Value} {i:Nat} {m:Str->Option Value},P.Nodup->P[i]? = some x->vs[i]? = some v->kindOf x≠some .local ->
  bindC kindOf (P.zip vs) m x=some v
 | [],_,_,_,_,h,_,_=>by simp at h
 | _::_,[],_,_,_,_,h,_=>by simp at h
 | p::P,w::vs,0,m,nd,h1,h2,hk=>by
  simp at h1 h2;subst h1;subst h2;show bindC kindOf ((p,w)::P.zip vs) m p=_;unfold bindC;rw [nk fun v hv=>(bt.mp nd).1 (bW hv).1,if_neg hk];simp
 | p::P,w::vs,i+1,m,nd,h1,h2,hk=>by
  show bindC kindOf ((p,w)::P.zip vs) m x=_;unfold bindC;exact nq (i:=i) (bt.mp nd).2 (by simpa using h1) (by simpa using h2) hk
def start(N:List Str)(vs:List V):St:=vs.map some++List.replicate (N.length-vs.length) none
def n5(CX:qH)(P:Program)(w:World)(K:Frag)(mg:Str->Option Value)(base:Heap)(N:List Str)(qual:Str)(scope:Scope)(f:Addr)(cd:Value)(A:Around)(outer:List Env)(s:Shared)(H:Hp)(E:XK):Cx where
 prog:=P
 w:=w
 K:=K
 mg:=mg
 base:=base
 A:=A.deeper (envOfC qual scope s.heap.objs.size f cd)
 N:=N
 s₀:=s
 H₀:=H
 env:=envOfC qual scope s.heap.objs.size f cd
 outer:=outer
 stack:=envOfC qual scope s.heap.objs.size f cd::outer
 ex:=[]
 calm:=true
 fn:=fun _=>true
 pn:=[]
 xe:=fun e s'=>wpAny (model P w) (A.deeper (envOfC qual scope s.heap.objs.size f cd)) (leaving (envOfC qual scope s.heap.objs.size f cd) e) (fun _ s''=>CX outer H s E e s'') (fun e' s''=>CX outer H s E e' s'') s'
theorem pz{sc:Scope}{n:Nat}{x:Str}(h:sc.names.lookup x=some .cell):∃ c,(cellsFrom n sc.names []).lookup x=some c:=by
 have q:=PySem.W.cellsFrom_some sc.names n [] (.inl h);exact Option.isSome_iff_exists.mp q
theorem sQ{CX:qH}{P:Program}{w:World}{K:Frag}{mg:Str->Option Value}{base:Heap}{N ps:List Str}{qual:Str}{scope:Scope}{f:Addr}{cd:Value}{A:Around}{outer:List Env}{s s1:Shared}{H:Hp}{E:XK}{us:List Value}{vs:List V}
  (S:FnScope N ps scope) (hd:A.handled=none) (e0:Env0 P w K mg base A outer s H) (hl:vs.length=ps.length) (r:Vals vs us)
  (x:InCallC s s.heap.objs.size (bindL (envOfC qual scope s.heap.objs.size f cd).kindOf (ps.zip us) fun _=>none) (cellsFrom (s.heap.objs.size+1) scope.names []) (bindC (envOfC qual scope s.heap.objs.size f cd).kindOf (ps.zip us) fun _=>none) s1) :
  Inv (n5 CX P w K mg base N qual scope f cd A outer s H E) [] (start N vs) H s1:=by
 have hpl:ps.length<=N.length:=by have:=congrArg List.length S.pre;rw [a7] at this;omega
 obtain⟨h1,tk,rfl,hk⟩:=x.done;have noA:∀ b:Addr,b ∉ (n5 CX P w K mg base N qual scope f cd A outer s H E).ex:=fun b z=>absurd (show b∈([]:List Addr) from z) (by simp);refine⟨⟨e0.mod,S.kind,rfl,rfl,ai _,fun y z c h1 h2=>?_,fun y hy=>?_,fun y c _ h=>?_,fun _=>hd,Around.frames_deeper e0.frames,.inr ⟨rfl,rfl⟩,fun b z=>absurd z (noA b),e0.bs,e0.bsz,fun b _ _=>noA b,fun b z=>absurd z (noA b),e0.funs,e0.frf,e0.sr,⟨_,_,rfl,S.gen,S.co,rfl,rfl⟩⟩,
  rfl,e0.bare,Un.kept hk,⟨_,x.toInCall.ns,fun i y v h1 h2 h3=>?_⟩,fun y c h=>⟨_,x.cell y c h⟩,e0.hok.fresh (ai _),fun y c h=>?_,fun p hp=>absurd (show p∈([]:List (Addr×Obj)) from hp) (by simp),e0.hok.kept hk,?_⟩
 ·exact name_of_addr x.apart (PySem.mem_of_lookup h1) (PySem.mem_of_lookup h2)
 ·have hy:scope.names.lookup y=some .cell\/scope.names.lookup y=some .free:=hy;rcases hy with hy|hy
  ·exact pz hy
  ·exact absurd rfl (S.nofree _ (PySem.mem_of_lookup hy))
 ·exact a6 (x.above y c (PySem.mem_of_lookup h))
 ·have hi:i<vs.length:=by
   unfold start at h2;by_cases hi:i<vs.length
   ·exact hi
   ·rw [bz (by simpa using hi)] at h2;rw [List.getElem?_replicate] at h2;split at h2 <;> cases h2
  have ha:vs[i]? = some v:=by
   unfold start at h2;rw [ba (by simpa using hi),aA] at h2;cases e:vs[i]? with
   | none=>rw [e] at h2;cases h2
   | some a=>rw [e] at h2;cases h2;rfl
  obtain⟨u,hu,rv⟩:=r.get ha;have hp:ps[i]? = some y:=by
   rw [← S.pre,List.getElem?_take_of_lt (by omega)];exact h1
  have ndP:ps.Nodup:=by rw [← S.pre];exact S.nd.sublist (List.take_sublist _ _)
  refine⟨u,rv,?_⟩;rcases S.par y (aF hp) with k|k
  ·exact .inl ⟨k,nj ndP hp hu k⟩
  ·obtain⟨c,e⟩:=pz (n:=s.heap.objs.size+1) k;refine .inr ⟨.inl k,c,e,?_⟩;have q:=x.cell y c e;rw [nq ndP hp hu (by show scope.names.lookup y≠_;rw [k];decide)] at q;exact q
 ·exact e0.hok.fresh (a6 (x.above y c (PySem.mem_of_lookup h)))
 ·unfold start;show _=N.length;rw [aB,aj,bZ];omega
theorem Ba{CX:qH}{P:Program}{w:World}{K:Frag}{mg:Str->Option Value}{base:Heap}{k:Nat}{f:Addr}{name qual:Str}{params:Arguments}{body:List Stmt}{scope:Scope}{dV kV doc pm cdv ct oc:Value}{an od:Option Addr}
  {osl:Array (Option Value)} {N ps:List Str} {sp:Sp} (lk:K.lookup f=some ⟨oc,od,.func (PySem.W.fnOf name qual params body scope dV kV doc pm an cdv ct),osl⟩) (hcd:PySem.W.codeIn K cdv qual=true) (S:FnScope N ps scope)
  (len:∀ vs H Q E,sp vs H Q E->vs.length=ps.length)
  (hbody:∀(A:Around) (outer:List Env) (s:Shared) (H:Hp) (vs:List V) (Q:VK) (E:XK),Room k (A.deeper (envOfC qual scope s.heap.objs.size f cdv))->sp vs H Q E ->
   ∃ t,PSs (n5 CX P w K mg base N qual scope f cdv A outer s H E) body t/\t { nx:=fun _ H'=>Q .non H',rt:=Q } (start N vs) H) :
  FnOk P w K mg base CX (k+1) f (PySem.W.fnOf name qual params body scope dV kV doc pm an cdv ct) ps sp:=by
 refine⟨len,fun A outer s H args us vs Q E hr e0 hb r hsp=>?_⟩;have hl:=len _ _ _ _ hsp;have KX:K.In s.heap:=e0.mod.kin.keeps fun b o e=>(e0.bs b o e).1;have lim:s.heap.NoLimit:=e0.mod.nolimit.keeps fun b o e=>(e0.bs b o e).1;have hkind:∀ y∈ps.zip us,scope.names.lookup y.1=some .local\/(scope.names.lookup y.1=some .cell/\((cellsFrom (s.heap.objs.size+1) scope.names []).lookup y.1).isSome=true):=fun⟨n,v⟩ hy=>by
  rcases S.par n (bW hy).1 with q|q
  ·exact .inl q
  ·exact .inr ⟨q,PySem.W.cellsFrom_some _ _ _ (.inl q)⟩
 refine codeAny_call_function hr.depth (KX _ _ lk) rfl S.co S.gen rfl (PySem.W.codeRec_of KX hcd) (hb _ _ _ _ ?_);refine wpAny_newFunctionEnv_cells S.kind hkind fun env he s1 x=>?_;subst he;refine⟨lim.keeps x.toInCall.keep,codeAny_func ?_⟩;obtain⟨t,ht,hq⟩:=hbody A outer s H vs Q E (hr.deeper _) hsp;have I:Inv (n5 CX P w K mg base N qual scope f cdv A outer s H E) [] (start N vs) H s1:=sQ S hr.hd e0 hl r x;refine wpAny_mono (ht [] s1 (start N vs) H _ I hq) (fun fl s' hs=>?_) fun e s' hs=>hs;have fin:∀{σ':St} {H':Hp} {v:V} {u:Value},Inv (n5 CX P w K mg base N qual scope f cdv A outer s H E) [] σ' H' s'->RelV v u->Q v H'->CE outer P w H s Q u s' :=
  fun {σ' H' v u} J rv q=>⟨v,H',J.os,J.bare,J.base,J.hok,rv,q⟩
 cases fl with
 | ret u =>
  obtain⟨v,σ',H',J,rv,q⟩:=hs;exact fin J rv q
 | next =>
  obtain⟨σ',H',J,q⟩:=hs;exact fin (v:=V.non) (u:=Value.none) J rfl q
 | brk =>
  obtain⟨_,_,_,q⟩:=hs;exact False.elim q
 | cont =>
  obtain⟨_,_,_,q⟩:=hs;exact False.elim q
end L2
namespace L2
open PySem PySem.Spec PyProof.Rows
section
variable{X:Cx}{x:Str}{p pos:Pos}{e:Expr}{es:List Expr}{t:TA}{id T:String}{r:List V->Hp->VK->Prop}
def BZ(r:List V->Hp->VK->Prop)(t:TA):TE:=fun σ H Q=>t σ H fun vs H1=>r vs H1 Q
theorem i7(hc:CallR X (.builtin id) r)(hg:Gl X x)(hm:X.mg x=none)(hv:bootBuiltins x=some (.builtin id))(ha:PA X (e::es) t)(hn:x ≠ "__name__" := by decide)(hdb:(x == ("__debug__" : Str))=false:=by decide)
  (he:starEach (e::es) X.env=(false,eval e X.env)::starEach es X.env:=by rfl) (hpl:(backTo pos (starEach es X.env)).any (·.1)=false:=by rfl):PE X (.Call (.Name x p) (e::es) [] pos) (BZ r t):=by
 intro pins s σ H Q I h;refine wpAny_Call_Name_kw (j7 I hg hm hv ?_ hn hdb);exact PyProof.Rows.callWith_builtin1 (ja (ha pos pins s σ H _ I h) fun us s1 ⟨vs,H1,I1,r1,q1⟩=>hc pins s1 σ H1 vs us Q I1 r1 q1) he hpl
theorem ki(hc:CallR X (.type T) r)(hg:Gl X x)(hm:X.mg x=none)(hv:bootBuiltins x=some (.type T))(ha:PA X (e::es) t)(hn:x ≠ "__name__" := by decide)(hdb:(x == ("__debug__" : Str))=false:=by decide)
  (he:starEach (e::es) X.env=(false,eval e X.env)::starEach es X.env:=by rfl) (hpl:(backTo pos (starEach es X.env)).any (·.1)=false:=by rfl):PE X (.Call (.Name x p) (e::es) [] pos) (BZ r t):=by
 intro pins s σ H Q I h;refine wpAny_Call_Name_kw (j7 I hg hm hv ?_ hn hdb);exact PyProof.Rows.callWith_type1 (ja (ha pos pins s σ H _ I h) fun us s1 ⟨vs,H1,I1,r1,q1⟩=>hc pins s1 σ H1 vs us Q I1 r1 q1) he hpl
end
end L2
namespace HT
open PySem PyProof.Rows
section
open PySem.SeqAt
open PySem.AutoSeq1 (wpAny_loadPart')
open PySem.MeetsSeq PySem.MeetsSeq2 PySem.MeetsSeq3
end
section
variable{prog:Program}{w:World}{A:Around}{E:Value->Shared->Prop}{s:Shared}
theorem xh{t b:Addr}{vs ws:List Value}{Q:Value->Shared->Prop}(ht:IsTup s.heap t vs.toArray)(hb:IsTup s.heap b ws.toArray)(hv:vs≠[])
  (h1:ws=[]->Q (.ref t) s) (h2:ws≠[]->Q (.ref s.heap.objs.size) { s with heap:=s.heap.push { cls:=.type "tuple",data:=.seq (vs++ws).toArray } })
  (hsz:vs.length+ws.length<=sizeLine):wpAny (model prog w) A (binaryOp .Add (.ref t) (.ref b)) Q E s:=by
 obtain⟨⟨cls,dd,data,sl⟩,ho,hc,n,hd⟩:=id ht;obtain⟨⟨cls2,dd2,data2,sl2⟩,ho2,hc2,n2,hd2⟩:=id hb;simp only at hc hd hc2 hd2;subst hc hd hc2 hd2;have e:vs.toArray++ws.toArray=(vs++ws).toArray:=by simp
 by_cases hw:ws=[]
 ·exact concat_meets ⟨_,ho,rfl⟩ ⟨_,ho2,rfl⟩ noFill_tuple_add seq_tuple_add PySem.F.slot_tuple_add PySem.F.entry_tuple_add (PySem.F.args_tuple_add_2 _ _)
   (tuple_addW1 t b vs.toArray ws.toArray n n2 dd dd2 sl sl2 (by simpa using hv) (by simp [hw])) ⟨ho,ho2,h1 hw⟩
 ·refine concat_meets ⟨_,ho,rfl⟩ ⟨_,ho2,rfl⟩ noFill_tuple_add seq_tuple_add PySem.F.slot_tuple_add PySem.F.entry_tuple_add (PySem.F.args_tuple_add_2 _ _)
   (tuple_addW2 t b vs.toArray ws.toArray n n2 dd dd2 sl sl2 (by simpa using hv) (by simpa using hw) (by rw [af,af];exact hsz)) ⟨ho,ho2,?_⟩
  rw [e];exact h2 hw
def jo(n d:Nat):Option Int->Nat
 | none=>d
 | some v=>if v<0 then (v+(n:Int)).toNat else min v.toNat n
theorem tT(n d:Nat):jo n d none=d:=rfl
theorem vO(n d k:Nat):jo n d (some (k:Int))=min k n:=by
 show (if (k:Int)<0 then ((k:Int)+(n:Int)).toNat else min (k:Int).toNat n)=min k n;rw [if_neg (by omega),aI]
theorem yo(n d:Nat)(hd:d<=n)(o:Option Int):jo n d o<=n:=by
 cases o with
 | none=>exact hd
 | some v =>
  show (if v<0 then (v+(n:Int)).toNat else min v.toNat n)<=n;by_cases hv:v<0
  ·rw [if_pos hv];omega
  ·rw [if_neg hv];exact Nat.min_le_right _ _
theorem rO(v:Int)(n d:Nat):(if v<0 then max (v+(n:Int)) 0 else min v (n:Int))=((jo n d (some v):Nat):Int):=by
 show (if v<0 then max (v+(n:Int)) 0 else min v (n:Int))=(((if v<0 then (v+(n:Int)).toNat else min v.toNat n):Nat):Int);by_cases hv:v<0
 ·simp only [if_pos hv];omega
 ·simp only [if_neg hv];omega
theorem qG(lo hi:Option Int)(n:Nat):Builtin.Slice.sliceAdjust lo hi 1 (n:Int)=(((jo n 0 lo:Nat):Int),((jo n n hi:Nat):Int)):=by
 have h1:¬ ((1:Int)<0):=by omega
 unfold Builtin.Slice.sliceAdjust;simp only [h1,if_false];refine Prod.ext ?_ ?_
 ·cases lo with
  | none=>rfl
  | some v=>exact rO v n 0
 ·cases hi with
  | none=>rfl
  | some v=>exact rO v n n
theorem pR(i j:Nat):Builtin.Slice.slicePlaces (i:Int) (j:Int) 1=j-i:=by
 unfold Builtin.Slice.slicePlaces;have h1:(1:Int) > 0:=by omega
 simp only [h1,if_true,Int.ediv_one];split <;> omega
theorem lQ{v:Value}{o:Option Int}{Q:Option Int->Shared->Prop}(p:IsPart v o)(h:Q o s):wpAny (model prog w) A (Builtin.Slice.slicePartIndex v) Q E s:=by
 cases p with
 | none=>exact slicePart_none h
 | int i t=>exact slicePart_int h
theorem jN{sl:Addr}{vl vu:Value}{lo hi:Option Int}{n:Nat}{Q:Int×Int×Nat->Shared->Prop}(hs:s.heap.IsSliceOf sl vl vu .none)(pl:IsPart vl lo)(pu:IsPart vu hi)
  (h:Q (((jo n 0 lo:Nat):Int),1,jo n n hi-jo n 0 lo) s):wpAny (model prog w) A (Builtin.Slice.sliceApplied (.ref sl) (pure (n:Int))) Q E s:=by
 obtain⟨os,hos,hcs,hds⟩:=id hs;unfold Builtin.Slice.sliceApplied Builtin.Slice.sliceFields;refine wpAny_bind (wpAny_bind (wpAny_field hos hds (x:=vl) rfl (wpAny_bind (wpAny_field hos hds (x:=vu) rfl (wpAny_bind (wpAny_field hos hds (x:=.none) rfl (wpAny_pure ?_)))))));refine wpAny_bind (slicePart_none ?_);show wpAny _ _ (if ((1:Int) == 0)=true then _ else _) _ _ s;rw [if_neg (by decide)];refine wpAny_bind (lQ pl (wpAny_bind (lQ pu (wpAny_bind (wpAny_pure ?_)))));show wpAny _ _ (match Builtin.Slice.sliceAdjust lo hi 1 (n:Int) with|(lo,hi)=>pure (lo,(1:Int),Builtin.Slice.slicePlaces lo hi 1)) _ _ s;rw [qG lo hi n];show wpAny _ _ (pure (((jo n 0 lo:Nat):Int),(1:Int),Builtin.Slice.slicePlaces ((jo n 0 lo:Nat):Int) ((jo n n hi:Nat):Int) 1)) _ _ s;rw [pR];exact wpAny_pure h
theorem t9(xs:Array Value)(i k:Nat):((List.range k).filterMap fun (m:Nat)=>xs[((i:Int)+(m:Int)*1).toNat]?).toArray=((xs.toList.drop i).take k).toArray:=by
 have e:(fun (m:Nat)=>xs[((i:Int)+(m:Int)*1).toNat]?)=fun m=>xs[i+m]?:=by
  funext m;have:((i:Int)+(m:Int)*1).toNat=i+m:=by omega
  rw [this]
 rw [e];have:=pick_run xs i k;rw [List.filterMap_map] at this;have e2:((fun x=>xs[x]?)∘fun x=>i+x)=fun m=>xs[i+m]?:=rfl;rw [e2] at this;rw [this]
theorem kQ{t sl:Addr}{items:Array Value}{vl vu:Value}{lo hi:Option Int}{Q:Value->Shared->Prop}(ht:IsTup s.heap t items)(hs:s.heap.IsSliceOf sl vl vu .none)(pl:IsPart vl lo)(pu:IsPart vu hi)
  (hw:¬ (jo items.size 0 lo=0/\jo items.size items.size hi=items.size))
  (h:Q (.ref s.heap.objs.size) { s with heap:=s.heap.push { cls:=.type "tuple",data:=.seq ((items.toList.drop (jo items.size 0 lo)).take (jo items.size items.size hi-jo items.size 0 lo)).toArray } })
  (hsz:items.size<=sizeLine):wpAny (model prog w) A (getItem (.ref t) (.ref sl)) Q E s:=by
 have htake:sizeOk (.seq ((items.toList.drop (jo items.size 0 lo)).take (jo items.size items.size hi-jo items.size 0 lo)).toArray):=by
  show ((items.toList.drop (jo items.size 0 lo)).take (jo items.size items.size hi-jo items.size 0 lo)).toArray.size<=sizeLine;rw [af,a7,bR,bL];omega
 have hj:jo items.size items.size hi<=items.size:=yo _ _ (ai _) hi;obtain⟨os,hos,hcs,hds⟩:=id hs;have hTs:s.TypeIs (.ref sl) "slice" := ⟨os,hos,hcs⟩;unfold getItem;try with_reducible refine wpAny_holding ?_
 first|refine wpAny_bind (wpAny_pure ?_)|skip
 refine wpAny_bind (wpAny_sequenceKey ht.typeIs (by decide) ?_);refine wpAny_bind (wpAny_callSpecial?_slot (name:=Str.ofString "__getitem__") ht.typeIs PyProof.Rows.slot_tuple_getitem
  (wpAny_call_entry PyProof.Rows.slot_tuple_getitem ht.typeIs entry_tuple_getitem ?_ (args_tuple_getitem _ _)))
 show wpAny _ _ (Builtin.Tuple.tupleItemsOf (.ref t) >>= _) _ _ s;refine wpAny_bind (tupleItemsOf_ ht ?_);refine wpAny_bind (wpAny_typeOf hTs ?_);rw [if_pos (by decide)];refine wpAny_bind (jN hs pl pu ?_);have hno:¬ ((((jo items.size 0 lo:Nat):Int) == 0 && (1:Int) == 1 && (jo items.size items.size hi-jo items.size 0 lo) == items.size)=true):=by
  intro q;rw [aC,aC] at q;have q1:((jo items.size 0 lo:Nat):Int)=0:=eq_of_beq q.1.1;have q2:jo items.size items.size hi-jo items.size 0 lo=items.size:=eq_of_beq q.2;exact hw ⟨by omega,by omega⟩
 show wpAny _ _ (if (((jo items.size 0 lo:Nat):Int) == 0 && (1:Int) == 1 && (jo items.size items.size hi-jo items.size 0 lo) == items.size)=true then _ else _) _ _ s;rw [if_neg hno,t9];first
  | exact wpAny_bind (m:=Builtin.Tuple.tupleExact _) (wpAny_newObj_type (wpAny_pure ⟨_,rfl,wpAny_pure h⟩) htake)
  | exact wpAny_bind (m:=Builtin.Tuple.tupleExact _) (wpAny_newObj_type (wpAny_bind (wpAny_pure (wpAny_pure ⟨_,rfl,wpAny_pure h⟩))) htake)
  | exact wpAny_bind (wpAny_bind (m:=Builtin.Tuple.tupleExact _) (wpAny_newObj_type (wpAny_pure (wpAny_pure ⟨_,rfl,wpAny_pure h⟩)) htake))
  | exact wpAny_bind (wpAny_bind (m:=Builtin.Tuple.tupleExact _) (wpAny_newObj_type (wpAny_pure ⟨_,rfl,wpAny_pure h⟩) htake))
end
end HT
namespace L2
open PySem PySem.Spec PyProof.Rows
abbrev TO:=St->Hp->(Option Int->Hp->Prop)->Prop
def PO(X:Cx)(e:Option Expr)(t:TO):Prop :=
 ∀(pins:List (Addr×Obj)) (s:Shared) (σ:St) (H:Hp) (Q:Option Int->Hp->Prop),Inv X pins σ H s->t σ H Q ->
  wpAny (model X.prog X.w) X.A (evalPart e X.env) (fun u s'=>∃ o H',Inv X pins σ H' s'/\IsPart u o/\Q o H') X.xe s
def vJ:TO:=fun _ H Q=>Q none H
def Ai(t:TE):TO:=fun σ H Q=>t σ H fun x H1=>∃ i,x = .int i/\Q (some i) H1
section
variable{X:Cx}{e:Expr}{te:TE}{lo hi:Option Expr}{tl th:TO}{pos p2:Pos}
theorem po_none:PO X none vJ:=by
 intro pins s σ H Q I h;rw [evalPart_none];exact wpAny_pure ⟨none,H,I,.none,h⟩
theorem qS(h:PE X e te):PO X (some e) (Ai te):=by
 intro pins s σ H Q I hw;rw [evalPart_some];refine ja (h pins s σ H _ I hw) fun u s1 ⟨x,H1,I1,r1,q1⟩=>?_;obtain⟨i,rfl,q⟩:=q1;obtain⟨t,rfl⟩:=r1;exact⟨some i,H1,I1,.int i t,q⟩
def SlR(X:Cx)(r:V->Option Int->Option Int->Hp->VK->Prop):Prop :=
 ∀(pins:List (Addr×Obj)) (s:Shared) (σ:St) (H:Hp) (x:V) (v vl vu:Value) (lo hi:Option Int) (sl:Addr) (Q:VK),Inv X pins σ H s->RelV x v->s.heap.IsSliceOf sl vl vu .none->IsPart vl lo->IsPart vu hi->r x lo hi H Q ->
  ∃ T id,typeLookup (.type T) "__getitem__" = pure (some (.builtin id))/\s.TypeIs v T/\wpAny (model X.prog X.w) X.A (getItem v (.ref sl)) (EP X pins σ Q) X.xe s
theorem SlR.or{r r':V->Option Int->Option Int->Hp->VK->Prop}(h:SlR X r)(h':SlR X r'):SlR X (fun x lo hi H Q=>r x lo hi H Q\/r' x lo hi H Q):=by
 intro pins s σ H x v vl vu lo hi sl Q I rx hs pl pu q;rcases q with q|q
 ·exact h pins s σ H x v vl vu lo hi sl Q I rx hs pl pu q
 ·exact h' pins s σ H x v vl vu lo hi sl Q I rx hs pl pu q
def Df(r:V->Option Int->Option Int->Hp->VK->Prop)(te:TE)(tl th:TO):TE:=fun σ H Q=>te σ H fun x H1=>tl σ H1 fun l H2=>th σ H2 fun u H3=>r x l u H3 Q
theorem ud{r:V->Option Int->Option Int->Hp->VK->Prop}(hr:SlR X r)(he:PE X e te)(hl:PO X lo tl)(hu:PO X hi th):PE X (.Subscript e (.Slice lo hi none p2) pos) (Df r te tl th):=by
 intro pins s σ H Q I h;refine Subscript_ (ja (he pins s σ H _ I h) fun v s1 ⟨x,H1,I1,r1,q1⟩=>?_);refine wpAny_Slice (ja (hl pins s1 σ H1 _ I1 q1) fun vl s2 ⟨l,H2,I2,pl,q2⟩=>ja (hu pins s2 σ H2 _ I2 q2) fun vu s3 ⟨u,H3,I3,pu,q3⟩=>?_);rw [evalPart_none];refine wpAny_pure ?_;have I4:Inv X pins σ H3 { s3 with heap:=s3.heap.push { cls:=.type "slice",data:=.fields #[vl,vu,.none] } }:=I3.kept (t':=s3.toks) fun b ob q=>Heap.get?_push_of_some _ q;obtain⟨T,id,hT,ht,hg⟩:=hr pins { s3 with heap:=s3.heap.push { cls:=.type "slice",data:=.fields #[vl,vu,.none] } } σ H3 x v vl vu l u s3.heap.objs.size Q I4 r1 (Heap.IsSliceOf.new ..) pl pu q3;show wpAny (model X.prog X.w) X.A (subscriptTail e (.Slice lo hi none p2) v (.ref s3.heap.objs.size)) (EP X pins σ Q) X.xe { s3 with heap:=s3.heap.push { cls:=.type "slice",data:=.fields #[vl,vu,.none] } };exact tail_any (ops:=[.ref s3.heap.objs.size,v]) ht hT hg (by with_unfolding_all rfl)
def pf(xs:List V)(lo hi:Option Int):List V:=(xs.drop (HT.jo xs.length 0 lo)).take (HT.jo xs.length xs.length hi-HT.jo xs.length 0 lo)
theorem ly(xs:List V)(lo hi:Option Int):(pf xs lo hi).length<=xs.length:=by
 unfold pf;rw [a7,bR];omega
def B6(K:Frag):V->Option Int->Option Int->Hp->VK->Prop:=fun x lo hi H Q=>∃ a xs,x = .ref a/\SqT K H a xs /\
 ¬ (HT.jo xs.length 0 lo=0/\HT.jo xs.length xs.length hi=xs.length)/\∀ p,H p=none->Q (.ref p) (i6 H p (.tup (pf xs lo hi)))
theorem sl_tup:SlR X (B6 X.K):=by
 intro pins s σ H x v vl vu lo hi sl Q I rx hs pl pu h;obtain⟨a,xs,rfl,hx,hw,q⟩:=h;cases rx;obtain⟨its,r,ht,hz⟩:=I.tuple hx;have hlen:its.toArray.size=xs.length:=by rw [af];exact r.length.symm
 refine⟨"tuple",_,PyProof.Rows.slot_tuple_getitem.lookup,ht.typeIs,?_⟩;refine HT.kQ ht hs pl pu (by rw [hlen];exact hw) ?_ (by rw [hlen];exact hz);rw [hlen];refine⟨.ref s.heap.objs.size,_,I.laid (t':=s.toks) (o:=.tup (pf xs lo hi)) (fun b ob q=>Heap.get?_push_of_some _ q) (ai _) ?_,rfl,q _ (I.hok.fresh (ai _))⟩;exact⟨az (ly xs lo hi) hz,_,(r.drop (HT.jo xs.length 0 lo)).take (HT.jo xs.length xs.length hi-HT.jo xs.length 0 lo),IsTup.new _ _⟩
def AH(K:Frag):R2:=fun x y H Q=>∃ a b xs ys,x = .ref a/\y = .ref b/\SqT K H a xs/\SqT K H b ys/\xs≠[]/\xs.length+ys.length<=sizeLine /\
 (ys=[]->Q (.ref a) H)/\(ys≠[]->∀ p,H p=none->Q (.ref p) (i6 H p (.tup (xs++ys))))
theorem Vals.nil_iff{xs:List V}{us:List Value}(r:Vals xs us):us=[]↔xs=[]:=by
 cases r with
 | nil=>simp
 | cons _ _=>simp
theorem wo:OpR X (binaryOp .Add) (AH X.K):=by
 intro pins s σ H x y v u Q I rx ry h;obtain⟨a,b,xs,ys,rfl,rfl,ha,hb,hx,hz,q1,q2⟩:=h;cases rx;cases ry;obtain⟨its,r1,p1,_⟩:=I.tuple ha;obtain⟨its2,r2,p2,_⟩:=I.tuple hb;refine HT.xh p1 p2 (fun z=>hx (r1.nil_iff.mp z)) (fun z=>⟨.ref a,H,I,rfl,q1 (r2.nil_iff.mp z)⟩) (fun z=>?_) (by rw [← r1.length,← r2.length];exact hz);refine⟨.ref s.heap.objs.size,_,I.laid (t':=s.toks) (o:=.tup (xs++ys)) (fun b ob q=>Heap.get?_push_of_some _ q) (ai _) ?_,rfl,q2 (fun w=>z (r2.nil_iff.mpr w)) _ (I.hok.fresh (ai _))⟩;exact⟨by rw [aB];exact hz,_,r1.append r2,IsTup.new _ _⟩
end
end L2
namespace L2
open PySem PySem.Spec PyProof.Rows
def vB(n:Nat)(i:Int):Option Nat:=if 0<=i then (if i<n then some i.toNat else none) else if -(n:Int)<=i then some (i+n).toNat else none
def tq{α:Type}(xs:List α)(i:Int):Option α:=(vB xs.length i).bind fun j=>xs[j]?
theorem rf{n:Nat}{i:Int}{j:Nat}(h:vB n i=some j):seqIndex? i n=some j/\j<n /\ -(n:Int)<=i/\i<n:=by
 unfold vB at h;by_cases h0:0<=i
 ·rw [if_pos h0] at h;by_cases h1:i<n
  ·rw [if_pos h1] at h;have e:i.toNat=j:=Option.some.inj h;exact⟨by rw [seqIndex_of h0 h1,e],by omega,by omega,h1⟩
  ·rw [if_neg h1] at h;cases h
 ·rw [if_neg h0] at h;by_cases h1 : -(n:Int)<=i
  ·rw [if_pos h1] at h;have e:(i+n).toNat=j:=Option.some.inj h;exact⟨by rw [seqIndex_neg (by omega) h1,e],by omega,h1,by omega⟩
  ·rw [if_neg h1] at h;cases h
theorem oj{α:Type}{xs:List α}{i:Int}{v:α}(h:tq xs i=some v):∃ j,seqIndex? i xs.length=some j/\xs[j]? = some v/\j<xs.length /\ -(xs.length:Int)<=i/\i<xs.length:=by
 unfold tq at h;cases e:vB xs.length i with
 | none=>rw [e] at h;cases h
 | some j =>
  rw [e] at h;obtain⟨h1,h2,h3,h4⟩:=rf e;exact⟨j,h1,h,h2,h3,h4⟩
theorem kn{α:Type}{xs:List α}{j:Nat}{v:α}(h:xs[j]? = some v):tq xs (j:Int)=some v:=by
 have hj:j<xs.length:=(aq.mp h).1;have e:vB xs.length (j:Int)=some j:=by
  unfold vB;rw [if_pos (by omega),if_pos (by omega)];simp
 unfold tq;rw [e];exact h
def lL(b:Expr):Prop:=∀ o i,subscripted b false o i=operate [o,i] (getItem o i)
def IxR(X:Cx)(r:R2):Prop :=
 ∀(value slice:Expr) (pins:List (Addr×Obj)) (s:Shared) (σ:St) (H:Hp) (x y:V) (v u:Value) (Q:VK),Inv X pins σ H s->RelV x v->RelV y u->r x y H Q ->
  subscripted slice false v u=operate [v,u] (getItem v u)->wpAny (model X.prog X.w) X.A (subscriptTail value slice v u) (EP X pins σ Q) X.xe s
def zU(X:Cx)(id:String)(r:V->List V->Hp->VK->Prop):Prop :=
 ∀(pins:List (Addr×Obj)) (s:Shared) (σ:St) (H:Hp) (x:V) (xs:List V) (v:Value) (us:List Value) (Q:VK),Inv X pins σ H s->RelV x v->Vals xs us->r x xs H Q ->
  wpAny (model X.prog X.w) X.A (call (.builtin id) (v::us)) (EP X pins σ Q) X.xe s
section
variable{X:Cx}{a b:Expr}{ta tb:TE}{pos:Pos}
theorem IxR.or{r r':R2}(h:IxR X r)(h':IxR X r'):IxR X (fun x y H Q=>r x y H Q\/r' x y H Q):=by
 intro value slice pins s σ H x y v u Q I rx ry q hs;rcases q with q|q
 ·exact h value slice pins s σ H x y v u Q I rx ry q hs
 ·exact h' value slice pins s σ H x y v u Q I rx ry q hs
theorem jt{r:R2}(hr:IxR X r)(ha:PE X a ta)(hb:PE X b tb)(hs:lL b):PE X (.Subscript a b pos) (Aj r ta tb):=by
 intro pins s σ H Q I h;exact Subscript_ (zD ha hb I h fun v u s2 x y H2 I2 rx ry q=>hr a b pins s2 σ H2 x y v u Q I2 rx ry q (hs _ _))
def yA(K:Frag):R2:=fun x y H Q=>∃ p xs i v,x = .ref p/\y = .int i/\SqL K H p xs/\tq xs i=some v/\Q v H
def AB(K:Frag):R2:=fun x y H Q=>∃ p xs i v,x = .ref p/\y = .int i/\SqT K H p xs/\tq xs i=some v/\Q v H
def AC:R2:=fun x y H Q=>∃ z i c,x = .str z/\y = .int i/\z.length<=sizeLine/\tq z.cps.toList i=some c/\Q (.str ⟨#[c]⟩) H
theorem ix_list:IxR X (yA X.K):=by
 intro value slice pins s σ H x y v u Q I rx ry h hs;obtain⟨p,xs,i,z,rfl,rfl,hq,he,q⟩:=h;cases rx;obtain⟨t,rfl⟩:=ry;obtain⟨its,r,pl,hz⟩:=I.list hq;obtain⟨j,h1,h2,h3,h4,h5⟩:=oj he;obtain⟨w,ew,rw'⟩:=r.get h2;have hl:=r.length;have hn:=jL;have fin:EP X pins σ Q w s:=⟨z,H,I,rw',q⟩;by_cases h0:0<=i
 ·have hj:i.toNat=j:=by
   rw [seqIndex_of h0 h5] at h1;exact Option.some.inj h1
  exact item_listR pl.isList h0 (by omega) (by rw [hj];simpa using ew) fin hs
 ·have hj:(i+(its.toArray.size:Int)).toNat=j:=by
   rw [seqIndex_neg (by omega) h4] at h1;rw [af,← hl];exact Option.some.inj h1
  exact subscriptTail_builtinR (x:=w) pl.isList.typeIs slot_list_getitem.lookup
   (wpAny_getItem_list_neg (Q:=fun r s'=>r=w/\EP X pins σ Q r s') pl.isList (by omega) (by rw [af] <;> omega) (by omega) (by rw [hj];simpa using ew) ⟨rfl,fin⟩) hs
theorem ix_tup:IxR X (AB X.K):=by
 intro value slice pins s σ H x y v u Q I rx ry h hs;obtain⟨p,xs,i,z,rfl,rfl,hq,he,q⟩:=h;cases rx;obtain⟨t,rfl⟩:=ry;obtain⟨its,r,pl,hz⟩:=I.tuple hq;obtain⟨j,h1,h2,h3,h4,h5⟩:=oj he;obtain⟨w,ew,rw'⟩:=r.get h2;have hl:=r.length;have hn:=jL;have fin:EP X pins σ Q w s:=⟨z,H,I,rw',q⟩;exact subscriptTail_builtinR (x:=w) pl.typeIs slot_tuple_getitem.lookup
  (getItem_tuple (j:=j) (Q:=fun r s'=>r=w/\EP X pins σ Q r s') pl (by omega) (by omega) (by rw [af,← hl];exact h1) (by simpa using ew) ⟨rfl,fin⟩) hs
theorem zb:IxR X AC:=by
 intro value slice pins s σ H x y v u Q I rx ry h hs;obtain⟨z,i,c,rfl,rfl,hz,he,q⟩:=h;obtain⟨t,rfl⟩:=rx;obtain⟨t',rfl⟩:=ry;obtain⟨j,h1,h2,h3,h4,h5⟩:=oj he;have hl:z.cps.toList.length=z.length:=by simp [Str.length]
 rw [hl] at h1 h4 h5;have hn:=jL;exact tail_any (typeIs_str s z t) slot_str_getitem.lookup (getItem_str (c:=c) (by
  have e1:decide (i < -(2^63:Int))=false:=decide_eq_false (by omega);have e2:decide (i ≥ 2^63)=false:=decide_eq_false (by omega);rw [e1,e2,Bool.or_false]) (by rw [h1];simpa using h2) ⟨.str ⟨#[c]⟩,H,I.tok _,⟨_,rfl⟩,q⟩) hs
def BC(K:Frag):R2:=fun x y H Q=>yA K x y H Q\/AB K x y H Q\/AC x y H Q
theorem ix_seq:IxR X (BC X.K):=ix_list.or (ix_tup.or zb)
theorem qd(its:List Value)(n j:Nat)(u:Value):Obj.mapSeq (·.setIfInBounds j u) { cls:=.type "list",data:=.seq its.toArray n } = { cls:=.type "list",data:=.seq (its.set j u).toArray n }:=by
 simp [Obj.mapSeq]
theorem Inv.lst{pins:List (Addr×Obj)}{σ:St}{H:Hp}{s:Shared}{p:Addr}{xs:List V}(I:Inv X pins σ H s)(h:H p=some (.lst xs)) :
  ∃(its:List Value) (n:Nat),Vals xs its/\s.heap.get? p=some { cls:=.type "list",data:=.seq its.toArray n }/\xs.length<=sizeLine:=by
 obtain⟨z,its,n,r,e⟩:=I.hok p _ h;exact⟨its,n,r,e,z⟩
theorem Inv.lstUpd{pins:List (Addr×Obj)}{σ:St}{H:Hp}{s:Shared}{p:Addr}{xs ys:List V}{its its':List Value}{n n':Nat}{f:Obj->Obj}(I:Inv X pins σ H s)(h:H p=some (.lst xs))
  (ho:s.heap.get? p=some { cls:=.type "list",data:=.seq its.toArray n }) (hf:f { cls:=.type "list",data:=.seq its.toArray n } = { cls:=.type "list",data:=.seq its'.toArray n' }) (r:Vals ys its') (hz:ys.length<=sizeLine) (t:Nat) :
  Inv X pins σ (i6 H p (.lst ys)) { s with heap:=s.heap.update p f,toks:=t }:=by
 have e:(s.heap.update p f).get? p=some { cls:=.type "list",data:=.seq its'.toArray n' }:=by
  rw [Heap.get?_update_self f ho (by rw [hf] <;> rfl),hf]
 refine I.write (x:=p) (e:=p) (by rw [h];trivial) (.inl rfl) (fun b u hb q=>(Heap.get?_update_other _ _ (Ne.symm hb)).trans q) ⟨_,e⟩ ?_;exact⟨hz,its',n',r,e⟩
def xE:V->V->V->Hp->(Hp->Prop)->Prop:=fun o i v H Q=>∃ p xs k j,o = .ref p/\i = .int k/\H p=some (.lst xs)/\vB xs.length k=some j/\Q (i6 H p (.lst (xs.set j v)))
theorem jz:zL X xE:=by
 intro pins s σ H o i v ov iv u Q I ro ri rv h;obtain⟨p,xs,k,j,rfl,rfl,hp,hj,q⟩:=h;cases ro;obtain⟨t,rfl⟩:=ri;obtain⟨its,n,r,ho,hz⟩:=I.lst hp;obtain⟨h1,h2,h3,h4⟩:=rf hj;have hl:=r.length;have hn:=jL;have I':Inv X pins σ (i6 H p (.lst (xs.set j v))) { s with heap:=s.heap.update p (Obj.mapSeq (·.setIfInBounds j u)) } :=
  I.lstUpd hp ho (qd its n j u) (r.set rv j) (by rw [aO];exact hz) s.toks
 by_cases h0:0<=k
 ·have hk:k.toNat=j:=by
   rw [seqIndex_of h0 h4] at h1;exact Option.some.inj h1
  exact PySem.W.ki_setAt ho h0 (by omega) (by rw [af,← hl];exact h4) (by rw [hk];exact⟨_,I',q⟩)
 ·have hk:(k+(its.toArray.size:Int)).toNat=j:=by
   rw [seqIndex_neg (by omega) h3] at h1;rw [af,← hl];exact Option.some.inj h1
  exact PySem.W.ki_setBack ho (by omega) (by rw [af,← hl];exact h3) (by omega) (by rw [hk];exact⟨_,I',q⟩)
theorem nA(lo hi:Option Int)(n:Nat):(sliceBounds lo hi none n).1=((HT.jo n 0 lo:Nat):Int)/\(sliceBounds lo hi none n).2.1=((HT.jo n n hi:Nat):Int)/\(sliceBounds lo hi none n).2.2=1:=by
 refine⟨?_,?_,rfl⟩
 ·cases lo with
  | none=>simp [sliceBounds,HT.jo]
  | some i =>
   simp only [sliceBounds,HT.jo,cP,show (1:Int) > 0 by decide,if_true];by_cases h:i<0
   ·simp only [h,if_true] <;> omega
   ·simp only [h,if_false] <;> omega
 ·cases hi with
  | none=>simp [sliceBounds,HT.jo]
  | some i =>
   simp only [sliceBounds,HT.jo,cP,show (1:Int) > 0 by decide,if_true];by_cases h:i<0
   ·simp only [h,if_true] <;> omega
   ·simp only [h,if_false] <;> omega
theorem mz(its:List Value)(lo hi:Option Int):slicePick its.toArray lo hi none=((its.drop (HT.jo its.length 0 lo)).take (HT.jo its.length its.length hi-HT.jo its.length 0 lo)).toArray:=by
 obtain⟨h1,h2,h3⟩:=nA lo hi its.toArray.size;unfold slicePick;rw [h1,h2,h3];simp only [sliceRange_one,pick_run,af] <;> rfl
def B8(K:Frag):V->Option Int->Option Int->Hp->VK->Prop:=fun x lo hi H Q=>∃ a xs,x = .ref a/\SqL K H a xs/\∀ p,H p=none->Q (.ref p) (i6 H p (.lst (pf xs lo hi)))
theorem sl_list:SlR X (B8 X.K):=by
 intro pins s σ H x v vl vu lo hi sl Q I rx hs pl pu h;obtain⟨a,xs,rfl,hx,q⟩:=h;cases rx;obtain⟨its,r,ht,hz⟩:=I.list hx;have hlen:=r.length;refine⟨"list",_,slot_list_getitem.lookup,ht.isList.typeIs,?_⟩;refine wpAny_getItem_list_slice ht.isList hs pl pu .none (by simp) ?_ (by rw [af] <;> omega);rw [mz,← hlen];refine⟨.ref s.heap.objs.size,_,I.laid (t':=s.toks) (o:=.lst (pf xs lo hi)) (fun b ob q=>Heap.get?_push_of_some _ q) (ai _) ?_,rfl,q _ (I.hok.fresh (ai _))⟩;exact⟨az (ly xs lo hi) hz,_,0,(r.drop (HT.jo xs.length 0 lo)).take (HT.jo xs.length xs.length hi-HT.jo xs.length 0 lo),Heap.get?_push_size _ rfl⟩
def ku:V->Bool
 | .non=>true
 | .bl _=>true
 | .int _=>true
 | .str _=>true
 | _=>false
def xT:V->V->Bool
 | .non,.non=>true
 | .bl a,.bl b=>a == b
 | .bl a,.int b=>(if a then 1 else 0) == b
 | .int a,.bl b=>a == (if b then 1 else 0)
 | .int a,.int b=>a == b
 | .str a,.str b=>a == b
 | _,_=>false
theorem zp{A:Around}{s:Shared}{y x:V}{u v:Value}(ry:RelV y u)(rx:RelV x v)(fy:ku y=true)(fx:ku x=true):SeqAt.EqAt A s u v (xT y x):=by
 cases y with
 | non =>
  cases ry;cases x with
  | non=>cases rx;exact SeqAt.EqAt.same _
  | bl b=>cases rx;exact SeqAt.EqAt.none_bool b
  | int b=>obtain⟨t,rfl⟩:=rx;exact SeqAt.EqAt.none_int b t
  | str b=>obtain⟨t,rfl⟩:=rx;exact SeqAt.EqAt.none_str b t
  | _=>exact absurd (show false=true from fx) am
 | bl a =>
  cases ry;cases x with
  | non=>cases rx;exact SeqAt.EqAt.bool_none a
  | bl b=>cases rx;exact SeqAt.EqAt.bool_bool a b
  | int b=>obtain⟨t,rfl⟩:=rx;exact SeqAt.EqAt.bool_int a b t
  | str b=>obtain⟨t,rfl⟩:=rx;exact SeqAt.EqAt.bool_str a b t
  | _=>exact absurd (show false=true from fx) am
 | int a =>
  obtain⟨t',rfl⟩:=ry;cases x with
  | non=>cases rx;exact SeqAt.EqAt.int_none a t'
  | bl b=>cases rx;exact SeqAt.EqAt.int_bool a t' b
  | int b=>obtain⟨t,rfl⟩:=rx;exact SeqAt.EqAt.int_int a t' b t
  | str b=>obtain⟨t,rfl⟩:=rx;exact SeqAt.EqAt.int_str a t' b t
  | _=>exact absurd (show false=true from fx) am
 | str a =>
  obtain⟨t',rfl⟩:=ry;cases x with
  | non=>cases rx;exact SeqAt.EqAt.str_none a t'
  | bl b=>cases rx;exact SeqAt.EqAt.str_bool a t' b
  | int b=>obtain⟨t,rfl⟩:=rx;exact SeqAt.EqAt.str_int a t' b t
  | str b=>obtain⟨t,rfl⟩:=rx;exact SeqAt.EqAt.str_str a t' b t
  | _=>exact absurd (show false=true from fx) am
 | _=>exact absurd (show false=true from fy) am
def qq(x:V)(u:Value):Bool:=match u with
 | .none=>xT .non x
 | .bool b=>xT (.bl b) x
 | .int i _=>xT (.int i) x
 | .str z _=>xT (.str z) x
 | _=>false
theorem u4{x y:V}{u:Value}(r:RelV y u)(f:ku y=true):qq x u=xT y x:=by
 cases y with
 | non=>cases r;rfl
 | bl b=>cases r;rfl
 | int i=>obtain⟨t,rfl⟩:=r;rfl
 | str z=>obtain⟨t,rfl⟩:=r;rfl
 | _=>exact absurd (show false=true from f) am
theorem kT{x:V}:∀{xs:List V} {us:List Value},Vals xs us->xs.all ku=true->us.any (qq x)=xs.any fun y=>xT y x
 | _,_,.nil,_=>rfl
 | y::xs,u::us,.cons r t,f=>by
  rw [b8,aC] at f;rw [bn,bn,u4 r f.1,kT t f.2]
theorem j6{A:Around}{s:Shared}{x:V}{v:Value}(rx:RelV x v)(fx:ku x=true):∀{xs:List V} {us:List Value},Vals xs us->xs.all ku=true->∀ u∈us,SeqAt.EqAt A s u v (qq x u)
 | _,_,.nil,_=>fun u hu=>by cases hu
 | y::xs,u::us,.cons r t,f=>fun u' hu=>by
  rw [b8,aC] at f;rcases ah.mp hu with rfl|hu
  ·rw [u4 r f.1];exact zp r rx f.1 fx
  ·exact j6 rx fx t f.2 u' hu
def zS(x:V)(xs:List V):Bool:=xs.any fun y=>xT y x
def Cb(K:Frag)(neg:Bool):R2:=fun x y H Q=>∃ p xs,y = .ref p/\(SqL K H p xs\/SqT K H p xs)/\ku x=true/\xs.all ku=true/\Q (.bl (if neg then !zS x xs else zS x xs)) H
theorem sy:OpR X (compareOp .In) (Cb X.K false):=by
 intro pins s σ H x y v u Q I rx ry h;obtain⟨p,xs,rfl,hq,fx,fs,q⟩:=h;cases ry;rcases hq with hq|hq
 ·obtain⟨its,r,pl,hz⟩:=I.list hq;refine SeqAt.in_listAt (qq x) pl.isList (fun w hw=>j6 rx fx r fs w (by simpa using hw)) ⟨.bl _,H,I,rfl,?_⟩;rw [show its.toArray.any (qq x)=its.any (qq x) by simp,kT r fs];exact q
 ·obtain⟨its,r,pl,hz⟩:=I.tuple hq;refine SeqAt.in_tupleAt (qq x) pl (fun w hw=>j6 rx fx r fs w (by simpa using hw)) ⟨.bl _,H,I,rfl,?_⟩;rw [show its.toArray.any (qq x)=its.any (qq x) by simp,kT r fs];exact q
theorem nJ:OpR X (compareOp .NotIn) (Cb X.K true):=by
 intro pins s σ H x y v u Q I rx ry h;obtain⟨p,xs,rfl,hq,fx,fs,q⟩:=h;cases ry;rcases hq with hq|hq
 ·obtain⟨its,r,pl,hz⟩:=I.list hq;refine SeqAt.notIn_listAt (qq x) pl.isList (fun w hw=>j6 rx fx r fs w (by simpa using hw)) ⟨.bl _,H,I,rfl,?_⟩;rw [show its.toArray.any (qq x)=its.any (qq x) by simp,kT r fs];exact q
 ·obtain⟨its,r,pl,hz⟩:=I.tuple hq;refine SeqAt.notIn_tupleAt (qq x) pl (fun w hw=>j6 rx fx r fs w (by simpa using hw)) ⟨.bl _,H,I,rfl,?_⟩;rw [show its.toArray.any (qq x)=its.any (qq x) by simp,kT r fs];exact q
theorem og:CallR X (.builtin "len") (fun xs H Q=>∃ p ys,xs=[.ref p]/\(SqL X.K H p ys\/SqT X.K H p ys)/\Q (.int ys.length) H):=by
 intro pins s σ H xs us Q I r h;obtain⟨p,ys,rfl,hq,q⟩:=h;obtain⟨u,rfl,rx⟩:=lr r;cases rx;have hn:=jL;rcases hq with hq|hq
 ·obtain⟨its,r',pl,hz⟩:=I.list hq;have hlen:=r'.length;exact Calls.call_len_list pl.isList (by simp only [af] <;> omega) ⟨.int ys.length,H,I.tok _,⟨s.toks+1,by rw [af,hlen]⟩,q⟩
 ·obtain⟨its,r',pl,hz⟩:=I.tuple hq;have hlen:=r'.length;exact len_tuple pl (by simp only [af] <;> omega) ⟨.int ys.length,H,I.tok _,⟨s.toks+1,by rw [af,hlen]⟩,q⟩
theorem oe:CallR X (.builtin "len") (fun xs H Q=>∃ z,xs=[.str z]/\z.length<=sizeLine/\Q (.int z.length) H):=by
 intro pins s σ H xs us Q I r h;obtain⟨z,rfl,hz,q⟩:=h;obtain⟨u,rfl,t,rfl⟩:=lr r;have hn:=jL;exact len_str (by omega) ⟨.int z.length,H,I.tok _,⟨_,rfl⟩,q⟩
theorem oa:CallR X (.type "list") (fun xs H Q=>∃ p ys,xs=[.ref p]/\(SqL X.K H p ys\/SqT X.K H p ys)/\∀ l,H l=none->Q (.ref l) (i6 H l (.lst ys))):=by
 intro pins s σ H xs us Q I r h;obtain⟨p,ys,rfl,hq,q⟩:=h;obtain⟨u,rfl,rx⟩:=lr r;cases rx;have fin:∀(its:List Value),Vals ys its->ys.length<=sizeLine->∀(h':Heap) (c':Nat),(∀ b o',s.heap.get? b=some o'->h'.get? b=some o') ->
   h'.get? s.heap.objs.size=some { cls:=.type "list",dict:=none,data:=.seq its.toArray c',slots:=#[] }->EP X pins σ Q (.ref s.heap.objs.size) { s with heap:=h' }:=fun its r' hz h' c' kp e =>
  ⟨.ref s.heap.objs.size,_,I.laid (t':=s.toks) kp (ai _) (show ObjOk X.prog X.w _ h' _ (.lst ys) from⟨hz,its,c',r',e⟩),rfl,q _ (I.hok.fresh (ai _))⟩
 rcases hq with hq|hq
 ·obtain⟨its,r',pl,hz⟩:=I.list hq;have hlen:=r'.length;obtain⟨o,ho,hc,n,hd⟩:=pl.isList;exact call_list_seq p (.inl rfl) ho hc hd (fun h' c' kp e=>fin its r' hz h' c' kp e) (by simp only [af] <;> omega)
 ·obtain⟨its,r',pl,hz⟩:=I.tuple hq;have hlen:=r'.length;obtain⟨o,ho,hc,n,hd⟩:=pl;exact call_list_seq p (.inr rfl) ho hc hd (fun h' c' kp e=>fin its r' hz h' c' kp e) (by simp only [af] <;> omega)
theorem mC:CallR X (.type "tuple") (fun xs H Q=>∃ p ys,xs=[.ref p]/\((SqL X.K H p ys/\∀ l,H l=none->Q (.ref l) (i6 H l (.tup ys)))\/(SqT X.K H p ys/\Q (.ref p) H))):=by
 intro pins s σ H xs us Q I r h;obtain⟨p,ys,rfl,h⟩:=h;obtain⟨u,rfl,rx⟩:=lr r;cases rx;rcases h with⟨hq,q⟩|⟨hq,q⟩
 ·obtain⟨its,r',pl,hz⟩:=I.list hq;have hlen:=r'.length;refine call_tuple_list pl.isList (fun h' kp=>?_) (by simp only [af] <;> omega);have I1:Inv X pins σ H { s with heap:=h' }:=I.kept (t':=s.toks) kp;have I2:Inv X pins σ (i6 H h'.objs.size (.tup ys)) { s with heap:=h'.push { cls:=.type "tuple",data:=.seq its.toArray } } :=
   I1.laid (t':=s.toks) (fun b o e=>Heap.get?_push_of_some _ e) (ai _) (show ObjOk X.prog X.w _ _ _ (.tup ys) from⟨hz,its,r',IsTup.new _ _⟩)
  exact⟨.ref h'.objs.size,_,I2,rfl,q _ (I1.hok.fresh (ai _))⟩
 ·obtain⟨its,r',pl,hz⟩:=I.tuple hq;exact call_tuple_same pl ⟨.ref p,H,I,rfl,q⟩
def BN(K:Frag)(T:String)(x:V)(H:Hp):Prop:=match x with
 | .str _=>T = "str"
 | .int _=>T = "int"
 | .ref p=>(T = "list" /\ ∃ xs,SqL K H p xs)\/(T = "tuple" /\ ∃ o,K.lookup p=some o/\o.cls = .type "tuple" /\ o.dict=none) \/
   (T = "dict" /\ ((∃ kvs,H p=some (.dK kvs))\/∃ kvs,H p=some (.dT kvs)))\/(T = "set" /\ ∃ S n,H p=some (.set S n))
 | _=>False
theorem tJ{pins:List (Addr×Obj)}{σ:St}{H:Hp}{s:Shared}{T:String}{x:V}{v:Value}(I:Inv X pins σ H s)(r:RelV x v)(ty:BN X.K T x H) :
  s.TypeIs v T/\∀ a,v = .ref a->∃ ob,s.heap.get? a=some ob/\ob.dict=none:=by
 cases x with
 | str z =>
  obtain⟨t,rfl⟩:=r;cases (show T = "str" from ty);exact⟨typeIs_str s z t,fun _ e=>nomatch e⟩
 | int i =>
  obtain⟨t,rfl⟩:=r;cases (show T = "int" from ty);exact⟨typeIs_int s i t,fun _ e=>nomatch e⟩
 | ref p =>
  cases r;rcases ty with⟨rfl,xs,hq⟩|⟨rfl,o,hk,hc,hd⟩|⟨rfl,hk⟩|⟨rfl,S,n,hk⟩
  ·obtain⟨its,_,pl,_⟩:=I.list hq;refine⟨pl.isList.typeIs,fun a e=>?_⟩;cases e;obtain⟨o,n,e,c,hd,_⟩:=pl;exact⟨o,e,hd⟩
  ·refine⟨⟨o,I.kIn p o hk,hc⟩,fun a e=>?_⟩;cases e;exact⟨o,I.kIn _ o hk,hd⟩
  ·have z:∃ o,s.heap.get? p=some o/\o.ExactDict:=by
    rcases hk with⟨kvs,hk⟩|⟨kvs,hk⟩
    ·obtain⟨_,_,_,_,o,_,_,e,ex,_⟩:=I.hok p _ hk;exact⟨o,e,ex⟩
    ·obtain⟨_,_,_,_,o,_,_,e,ex,_⟩:=I.hok p _ hk;exact⟨o,e,ex⟩
   obtain⟨o,e,ex⟩:=z;refine⟨⟨o,e,ex.1⟩,fun a e2=>?_⟩;cases e2;exact⟨o,e,ex.2.1⟩
  ·obtain⟨o,_,_,_,e,ex,_⟩:=I.hok p _ hk;refine⟨⟨o,e,ex.1⟩,fun a e2=>?_⟩;cases e2;exact⟨o,e,ex.2.1⟩
 | _=>exact False.elim ty
def B0(K:Frag)(T:String)(r:V->List V->Hp->VK->Prop)(to:TE):TE:=fun σ H Q=>to σ H fun x H1=>BN K T x H1/\r x [] H1 Q
def Dj(K:Frag)(T:String)(r:V->List V->Hp->VK->Prop)(to:TE)(t:TA):TE:=fun σ H Q=>to σ H fun x H1=>BN K T x H1/\t σ H1 fun xs H2=>r x xs H2 Q
variable{o e:Expr}{es:List Expr}{to:TE}{t:TA}{name:Str}{apos cpos:Pos}{T id:String}{r:V->List V->Hp->VK->Prop}
theorem nH(pa:PlainAttrs T)(slot:Slot T name id)(hty:typeOf (.builtin id)=pure (.type "method_descriptor"))(hm:zU X id r)(ho:PE X o to)
  (hbase:attributeBase o name X.env (eval o X.env)=eval o X.env:=by rfl) (hline:(apos.endLine == cpos.line)=true:=by rfl):PE X (.Call (.Attribute o name apos) [] [] cpos) (B0 X.K T r to):=by
 intro pins s σ H Q I h;refine wpAny_Call_method0_late hbase hline (ja (ho pins s σ H _ I h) fun v s1 ⟨x,H1,I1,r1,ty,q1⟩=>?_);obtain⟨h1,h2⟩:=tJ I1 r1 ty;exact⟨T,id,pa,slot,hty,h1,h2,Calls.callWith_builtin rfl (PySem.evalArgs_none (hm pins s1 σ H1 x [] v [] Q I1 r1 .nil q1))⟩
theorem mN(pa:PlainAttrs T)(slot:Slot T name id)(hty:typeOf (.builtin id)=pure (.type "method_descriptor"))(hm:zU X id r)(ho:PE X o to)(ha:PA X (e::es) t)
  (hbase:attributeBase o name X.env (eval o X.env)=eval o X.env:=by rfl)
  (hfew:((backTo cpos (starEach (e::es) X.env)).all (fun x => !x.1) && (backToKw cpos (keywordEach [] X.env)).all (fun x=>x.1.isSome)
   && decide ((e::es).length+([]:List Keyword).length+(if ([]:List Keyword).isEmpty then 0 else 1)<30))=true:=by rfl)
  (hline:(apos.endLine == cpos.line)=true:=by rfl) (hs:starEach (e::es) X.env=(false,eval e X.env)::starEach es X.env:=by rfl) (hplain:(backTo cpos (starEach es X.env)).any (·.1)=false:=by rfl) :
  PE X (.Call (.Attribute o name apos) (e::es) [] cpos) (Dj X.K T r to t):=by
 intro pins s σ H Q I h;refine wpAny_Call_method_late hbase hfew hline rfl (ja (ho pins s σ H _ I h) fun v s1 ⟨x,H1,I1,r1,ty,q1⟩=>?_);obtain⟨h1,h2⟩:=tJ I1 r1 ty;refine⟨T,id,pa,slot,hty,h1,h2,?_⟩;have hA:=ha cpos pins s1 σ H1 _ I1 q1;rw [hs] at hA ⊢;refine Calls.callWith_builtin (by show (false || (backTo cpos (starEach es X.env)).any (·.1))=false;rw [hplain] <;> rfl) (Calls.evalArgs_plain ?_);exact ja hA fun us s2 ⟨vs,H2,I2,r2,q2⟩=>hm pins s2 σ H2 x vs v us Q I2 r1 r2 q2
end
end L2
namespace L2
open PySem PySem.Spec PyProof.Rows
def Bu(X:Cx)(id:String)(r:V->List V->Hp->VK->Prop):Prop :=
 ∀(pins:List (Addr×Obj)) (s:Shared) (σ:St) (H:Hp) (x:V) (xs:List V) (v:Value) (us:List Value) (Q:VK),Inv X pins σ H s->RelV x v->Vals xs us->r x xs H Q ->
  wpAny (model X.prog X.w) X.A (call (.builtin id) (v::us)) (EP X pins σ Q) X.xe s
theorem Vals.uncons{x:V}{xs:List V}{us:List Value}(h:Vals (x::xs) us):∃ u r,us=u::r/\RelV x u/\Vals xs r:=by
 cases h with
 | cons r t=>exact⟨_,_,rfl,r,t⟩
theorem Vals.unnil{us:List Value}(h:Vals [] us):us=[]:=by
 cases h;rfl
theorem Vals.one{x:V}{us:List Value}(h:Vals [x] us):∃ u,us=[u]/\RelV x u:=by
 obtain⟨u,r,rfl,h1,h⟩:=h.uncons;rw [h.unnil];exact⟨u,rfl,h1⟩
theorem Vals.two{x y:V}{us:List Value}(h:Vals [x,y] us):∃ u v,us=[u,v]/\RelV x u/\RelV y v:=by
 obtain⟨u,r,rfl,h1,h⟩:=h.uncons;obtain⟨v,rfl,h2⟩:=h.one;exact⟨u,v,rfl,h1,h2⟩
theorem Vals.zero:∀{us:List Value},Vals [] us->us=[]
 | _,.nil=>rfl
theorem Vals.dropLast{xs:List V}{us:List Value}(h:Vals xs us):Vals xs.dropLast us.dropLast:=by
 induction h with
 | nil=>exact .nil
 | cons r t ih =>
  cases t with
  | nil=>exact .nil
  | cons q t'=>exact .cons r ih
theorem Vals.reverse{xs:List V}{us:List Value}(h:Vals xs us):Vals xs.reverse us.reverse:=by
 induction h with
 | nil=>exact .nil
 | cons r t ih=>rw [bQ,bQ];exact Vals.append ih (.cons r .nil)
theorem Vals.rep{xs:List V}{us:List Value}(h:Vals xs us):∀ k:Nat,Vals (List.replicate k xs).flatten (List.replicate k us).flatten
 | 0=>.nil
 | k+1=>by
  rw [aV,aV,bh,bh];exact Vals.append h (Vals.rep h k)
theorem qp{α:Type}(l:List α):l.eraseIdx (l.length-1)=l.dropLast:=by
 induction l with
 | nil=>rfl
 | cons a r ih =>
  cases r with
  | nil=>rfl
  | cons b r =>
   have e:(a::b::r).length-1=((b::r).length-1)+1:=by
    have h1:(a::b::r).length=r.length+2:=rfl;have h2:(b::r).length=r.length+1:=rfl;omega
   rw [e,List.eraseIdx_cons_succ,ih];all_goals rfl
theorem k8(its:List Value):∀(k:Nat) (acc:List Value),
  List.foldl (fun x1 x2=>x1++x2) acc.toArray (List.replicate k its.toArray)=(acc++(List.replicate k its).flatten).toArray
 | 0,acc=>by simp
 | k+1,acc=>by
  have e:acc.toArray++its.toArray=(acc++its).toArray:=by simp
  have e2:(acc++its)++(List.replicate k its).flatten=acc++(List.replicate (k+1) its).flatten:=by
   rw [aV,bh,List.append_assoc]
  rw [← e2,← k8 its k (acc++its),← e,aV,List.foldl_cons]
section
variable{X:Cx}{pins:List (Addr×Obj)}{σ:St}{H:Hp}{s:Shared}{l b:Addr}{xs ys zs:List V}
theorem Inv.lset{its its':List Value}{n:Nat}{f:Array Value->Array Value}{t':Nat}(I:Inv X pins σ H s)(hH:H l=some (.lst xs))
  (e:s.heap.get? l=some { cls:=.type "list",data:=.seq its.toArray n }) (hf:f its.toArray=its'.toArray) (hv:Vals ys its') (hz:ys.length<=sizeLine) :
  Inv X pins σ (i6 H l (.lst ys)) { s with heap:=s.heap.update l (Obj.mapSeq f),toks:=t' }:=by
 have q:=PySem.IsL.update e f;rw [hf] at q;refine I.write (x:=l) (e:=l) (by rw [hH];exact trivial) (.inl rfl) (fun b' u hb hu=>(Heap.get?_update_other s.heap (Obj.mapSeq f) (Ne.symm hb)).trans hu) ⟨_,q⟩ ?_;exact⟨hz,its',_,hv,q⟩
theorem Inv.lnew{its:List Value}{t':Nat}(I:Inv X pins σ H s)(hv:Vals ys its)(hz:ys.length<=sizeLine) :
  Inv X pins σ (i6 H s.heap.objs.size (.lst ys)) { s with heap:=s.heap.push { cls:=.type "list",data:=.seq its.toArray },toks:=t' } :=
 I.laid (fun _ _ q=>Heap.get?_push_of_some _ q) (ai _) ⟨hz,its,0,hv,Heap.get?_push_size _ rfl⟩
theorem Inv.fresh(I:Inv X pins σ H s):H s.heap.objs.size=none:=I.hok.fresh (ai _)
theorem Inv.lstM(I:Inv X pins σ H s)(hH:H l=some (.lst xs)):xs.length<=sizeLine/\∃(its:List Value) (n:Nat),Vals xs its/\xs.length=its.length/\s.heap.get? l=some { cls:=.type "list",data:=.seq its.toArray n }:=by
 obtain⟨z,its,n,r,e⟩:=I.hok l _ hH;exact⟨z,its,n,r,r.length,e⟩
theorem lY{n:Nat}(h:n<=sizeLine):Builtin.List.listTooLong n=false:=by
 unfold Builtin.List.listTooLong;exact decide_eq_false (by omega)
end
section
variable{X:Cx}
def vV:V->List V->Hp->VK->Prop:=fun x vs H Q=>∃ l xs y,x = .ref l/\vs=[y]/\H l=some (.lst xs)/\xs.length<sizeLine/\Q .non (i6 H l (.lst (xs++[y])))
theorem sH:Bu X "list.append" vV:=by
 intro pins s σ H x vs v us Q I rx rv h;obtain⟨l,xs,y,rfl,rfl,hH,hz,q⟩:=h;cases rx;obtain⟨u,rfl,ru⟩:=rv.one;obtain⟨z,its,n,r,hl,e⟩:=I.lstM hH;refine call_meets F.slot_list_append ⟨_,e,rfl⟩ F.entry_list_append (F.args_list_append_2 _ _) (PySem.list_append l its.toArray n u (by rw [af];omega)) ⟨e,?_⟩;refine⟨.non,_,I.lset (its':=its++[u]) hH e (by simp) (r.append (.cons ru .nil)) ?_,rfl,q⟩;rw [aB,bY];omega
def vU:V->List V->Hp->VK->Prop:=fun x vs H Q=>∃ l b xs zs,x = .ref l/\vs=[.ref b]/\H l=some (.lst xs)/\H b=some (.lst zs)/\xs.length+zs.length<=sizeLine/\Q .non (i6 H l (.lst (xs++zs)))
theorem sG:Bu X "list.extend" vU:=by
 intro pins s σ H x vs v us Q I rx rv h;obtain⟨l,b,xs,zs,rfl,rfl,hH,hB,hz,q⟩:=h;cases rx;obtain⟨u,rfl,ru⟩:=rv.one;cases ru;obtain⟨z,its,n,r,hl,e⟩:=I.lstM hH;obtain⟨z2,its2,n2,r2,hl2,e2⟩:=I.lstM hB;have hsz:its.toArray.size+its2.toArray.size<=sizeLine:=by rw [af,af];omega
 have hlong:¬ (!its.toArray.isEmpty && Builtin.List.listTooLong (its.toArray.size+its2.toArray.size))=true:=by
  rw [lY hsz,Bool.and_false];exact am
 refine call_meets F.slot_list_extend ⟨_,e,rfl⟩ F.entry_list_extend (F.args_list_extend_2 _ _)
  (AutoSeq1.list_extend_list_list_0 l its.toArray n b its2.toArray n2 hlong (by rw [af];omega) (by omega)) ⟨e,e2,?_⟩
 refine⟨.non,_,I.lset (its':=its++its2) hH e (by simp) (r.append r2) ?_,rfl,q⟩;rw [aB];omega
def Ca:V->List V->Hp->VK->Prop:=fun x vs H Q=>∃ l xs y,x = .ref l/\vs=[]/\H l=some (.lst xs)/\xs[xs.length-1]? = some y/\Q y (i6 H l (.lst xs.dropLast))
theorem uF:Bu X "list.pop" Ca:=by
 intro pins s σ H x vs v us Q I rx rv h;obtain⟨l,xs,y,rfl,rfl,hH,hy,q⟩:=h;cases rx;have hus:=rv.zero;subst hus;obtain⟨z,its,n,r,hl,e⟩:=I.lstM hH;obtain⟨u,hu,ru⟩:=r.get hy;have hy':its.toArray[its.toArray.size-1]? = some u:=by
  show its.toArray[its.length-1]? = some u;rw [← bX,← hl];exact hu
 refine call_meets F.slot_list_pop ⟨_,e,rfl⟩ F.entry_list_pop (F.args_list_pop_1 _) (MeetsSeq.list_pop_last l its.toArray n u hy' (by rw [af];omega)) ⟨e,?_⟩;refine⟨y,_,I.lset (its':=its.dropLast) hH e ?_ r.dropLast ?_,ru,q⟩
 ·show its.toArray.eraseIdxIfInBounds (its.toArray.size-1)=its.dropLast.toArray;rw [af,List.eraseIdxIfInBounds_toArray,qp]
 ·rw [List.length_dropLast];omega
def yE:V->List V->Hp->VK->Prop:=fun x vs H Q=>∃ l xs,x = .ref l/\vs=[]/\H l=some (.lst xs)/\Q .non (i6 H l (.lst []))
theorem uG:Bu X "list.clear" yE:=by
 intro pins s σ H x vs v us Q I rx rv h;obtain⟨l,xs,rfl,rfl,hH,q⟩:=h;cases rx;have hus:=rv.zero;subst hus;obtain⟨z,its,n,r,hl,e⟩:=I.lstM hH;refine call_meets F.slot_list_clear ⟨_,e,rfl⟩ F.entry_list_clear (F.args_list_clear_1 _) (AutoSeq1.list_clear_list_0 l its.toArray n (by rw [af];omega)) ⟨e,?_⟩;exact⟨.non,_,I.lset (its':=[]) (ys:=[]) hH e rfl .nil (aS _),rfl,q⟩
def Cd:R2:=fun x y H Q=>∃ l b xs zs,x = .ref l/\y = .ref b/\H l=some (.lst xs)/\H b=some (.lst zs)/\xs.length+zs.length<=sizeLine/\∀ p,H p=none->Q (.ref p) (i6 H p (.lst (xs++zs)))
theorem yU:OpR X (binaryOp .Add) Cd:=by
 intro pins s σ H x y v u Q I rx ry h;obtain⟨l,b,xs,zs,rfl,rfl,hH,hB,hz,q⟩:=h;cases rx;cases ry;obtain⟨z,its,n,r,hl,e⟩:=I.lstM hH;obtain⟨z2,its2,n2,r2,hl2,e2⟩:=I.lstM hB;refine PySem.P.add_list e e2 ?_ (by rw [af,af];omega);have ea:its.toArray++its2.toArray=(its++its2).toArray:=by simp
 rw [ea];exact⟨.ref _,_,I.lnew (t':=s.toks) (r.append r2) (by rw [aB];omega),rfl,q _ I.fresh⟩
def B9:R2:=fun x y H Q=>∃ l k xs,x = .ref l/\y = .int k/\H l=some (.lst xs) /\ -(2^63)<=k/\k<2^63/\xs.length*k.toNat<=sizeLine /\
 ∀ p,H p=none->Q (.ref p) (i6 H p (.lst (List.replicate k.toNat xs).flatten))
theorem nQ{α:Type}(xs:List α)(k:Nat):(List.replicate k xs).flatten.length=k*xs.length:=by
 induction k with
 | zero=>simp
 | succ k ih=>rw [aV,bh,aB,ih,Nat.succ_mul,Nat.add_comm]
theorem uw:OpR X (binaryOp .Mult) B9:=by
 intro pins s σ H x y v u Q I rx ry h;obtain⟨l,k,xs,rfl,rfl,hH,h1,h2,hz,q⟩:=h;cases rx;obtain⟨t,rfl⟩:=ry;obtain⟨z,its,n,r,hl,e⟩:=I.lstM hH;have hlen:its.toArray.size*k.toNat<=sizeLine:=by rw [af,← hl];exact hz
 have hcap:¬ its.toArray.size*k.toNat > (2^63-1) / 8:=by
  have:(sizeLine:Nat)<=(2^63-1) / 8:=by decide
  omega
 have hfit:¬ (!Builtin.List.listFitsIndex k)=true:=by
  rw [fitsIndex_both h1 h2];exact am
 have hlong:¬ Builtin.List.listTooLong (its.toArray.size*k.toNat)=true:=by
  rw [lY hlen];exact am
 have hnew:List.foldl (fun x1 x2=>x1++x2) #[] (List.replicate (if its.toArray.isEmpty=true then 0 else k.toNat) its.toArray)=(List.replicate k.toNat its).flatten.toArray:=by
  have f0:∀ m:Nat,List.foldl (fun x1 x2=>x1++x2) #[] (List.replicate m its.toArray)=(List.replicate m its).flatten.toArray:=fun m=>by
   have:=k8 its m [];rw [List.nil_append] at this;exact this
  rw [f0];cases its with
  | nil=>simp
  | cons a r'=>rw [if_neg (by simp)]
 refine wpAny_binaryOp_repeat_ref (T := "list") (U := "int") (by decide) ⟨_,e,rfl⟩ (fun s'=>typeIs_int s' k t) noFill_list_mul F.fills_int_mul F.slot_int_rmul repeat_list F.slot_int_index.lookup
  (call_meets F.slot_int_rmul (typeIs_int s k t) F.entry_int_rmul (F.args_int_rmul_2 _ _) (int___rmul___int_list k t l its.toArray n)
   ⟨e,rfl,⟨_,e,rfl⟩,call_meets F.slot_list_mul ⟨_,e,rfl⟩ F.entry_list_mul (F.args_list_mul_2 _ _) (AutoListH.list___mul___list_int_3 l its.toArray n k t hfit hcap hlong) ⟨e,?_⟩⟩)
 rw [hnew];exact⟨.ref _,_,I.lnew (t':=s.toks) (r.rep k.toNat) (by rw [nQ,cj];exact hz),rfl,q _ I.fresh⟩
end
section
variable{prog:Program}{w:World}{A:Around}{E:Value->Shared->Prop}{s:Shared}
set_option maxRecDepth 100000 in
end
end L2
namespace Att
open PySem PySem.W PySem.Calls PyProof.Rows
theorem lB{P:Params}{h:Heap}:∀(ns:List Int) (vs:List Value),WellAll P h vs (ns.map WData.int)->IntsAre vs ns:=by
 intro ns;induction ns with
 | nil =>
  intro vs w;rw [List.map_nil] at w;cases w;exact .nil
 | cons n ns ih =>
  intro vs w;rw [aH] at w;cases w with
  | cons a b =>
   cases a;exact .cons _ _ (ih _ b)
theorem rY{l:OpenLaw}{n:Nat}(hn:l.most=some n){P:Params}{h:Heap}{args:List WData}{vals:List Value}
  (hpre:l.row.toRowW.claim.pre args=true) (hwl:WellAll P h vals args) :
  ∃ a vs ns,vals=[Value.ref a]/\args=[WData.list (ns.map WData.int)]/\h.get? a=some { cls:=.type "list",data:=.seq vs.toArray }/\IntsAre vs ns/\ns.length<=n:=by
 have hsh:WShape.hasAll [] args [.list .int]=true:=(pre_splitW hpre).1;have hc:l.pre.holds [] { args:=args }=true:=(pre_splitW hpre).2;obtain⟨d,r,rfl,h1,h2⟩:=hasAllW_cons hsh;obtain rfl:=hasAllW_nil h2;obtain⟨xs,rfl,h3⟩:=hasW_list h1;obtain⟨ns,rfl⟩:=items_int h3;have hlen:ns.length<=n:=by
  unfold OpenLaw.pre at hc;have h4:(WTm.not (.lt (.lit (.int (n:Int))) (.len (.arg 0)))).holds [] { args:=[.list (ns.map .int)] }=true:=by
   have h4:=(holds_andW hc).1;rw [hn] at h4;exact h4
  have h5:=condW_of h4 (w_not (w_lt w_lit (w_len_list (w_arg rfl))));rw [aj] at h5;refine Nat.le_of_not_lt fun q=>?_;have q':(n:Int)<((ns.length:Nat):Int):=by omega
  first
   | (rw [decide_eq_true q'] at h5;exact absurd h5 (by decide))
   | (simp at h5;omega)
 cases hwl with
 | cons w1 w2 =>
  cases w2;cases w1 with
  | list ho hall=>exact⟨_,_,ns,rfl,rfl,ho,lB ns _ hall,hlen⟩
theorem sd(l:OpenLaw)(args:List WData):l.row.toRowW.claim.post args (.bool true) args=true :=
 postW_of (r:=l.row.toRowW) (X:=(true == true))
  (show WShape.has [] (.bool true) .bool=true by first|rfl|decide|simp [WShape.has,WShape.arms,WShape.armsAll])
  (show (WTm.eq .res (.lit (.bool true))).value [] { args:=args,res:=some (.bool true),after:=args }=some (.bool (true == true)) from w_eq_bool (w_res rfl) w_lit) rfl
theorem pB{l:OpenLaw}{n:Nat}{q:Program}{loose:List Str}{XP:(Str->Option Value)->Heap->Prop}{YP:World->Heap->Prop}{d:DefRec}
  (hn:l.most=some n) (hdf:d.params.defaults=[])
  (call:∀(w:World) (s₀ s₁:Shared) (mg mb:Str->Option Value) (fa:Addr) (o:Obj) (pm cd doc:Value) (a:Addr) (vs:List Value) (ns:List Int),
   Ground q loose [] XP w s₀ mg mb s₁.heap->YP w s₁.heap ->
   s₁.heap.get? fa=some o->o.data = .func (docDef d.name d.params d.body d.scope pm cd doc)->s₁.heap.CodeRec cd d.name->mg d.name=some (.ref fa) ->
   s₁.heap.get? a=some { cls:=.type "list",data:=.seq vs.toArray }->IntsAre vs ns->ns.length<=n->s₁.gens = #[] ->
   codeAny (model l.prog w) callerA (.call (.ref fa) ⟨[.ref a],[]⟩) (fun r s'=>r = .ok (.ret (.bool true))/\OldK s₁.heap s'.heap/\s'.os=s₁.os/\AllBare s'.gens) s₁) :
  WalkO q loose XP YP l.row.toRowW d [] (fun f vs=>PySem.call f vs):=by
 intro w s₀ s₁ mg mb G Y fa o pm cd doc dV kV ho hd hcd hD hmg hg args vals as hpre hlay hrd hwl hlo;obtain rfl:dV = .none:=Dflts.none hD hdf;obtain rfl:kV = .none:=Dflts.noKw hD;obtain⟨a,vs,ns,rfl,rfl,hobj,hints,hlen⟩:=rY hn hpre hwl;refine enter_call (codeAny_mono (call w s₀ s₁ mg mb fa o pm cd doc a vs ns G Y ho (fd_plain hd) hcd hmg hobj hints hlen hg) fun r s' hq=>?_);obtain⟨rfl,h2,h3,h4⟩:=hq;exact⟨.inl ⟨.bool true,.bool true,[],rfl,fun _=>rfl,.bool true,sd l _,fun _=>⟨List.Pairwise.nil,fun _ hm=>(nomatch hm)⟩⟩,h2,h3,h4⟩
end Att
namespace L2
open PySem PySem.Spec PyProof.Rows
theorem mF:∀{vs:List Value} {ns:List Int},IntsAre vs ns->Vals (ns.map V.int) vs
 | _,_,.nil=>.nil
 | _,_,.cons n t h=>.cons ⟨t,rfl⟩ (mF h)
def zM(H:Hp):Prop:=∀ b,H b=none\/∃ o xs,H b=some (.frz o (.lst xs))
theorem uK{P:Program}{w:World}{K:Frag}{mg mb:Str->Option Value}{CX:qH}{k:Nat}{fa a:Addr}{fd:FuncData}{x:Str}{sp:Sp}{s₁:Shared}{vs:List Value}{ns:List Int}
  (KX:K.In s₁.heap) (hns:s₁.heap.Ns mainGlobals mg) (hb:s₁.heap.Ns builtinsNs mb) (hbb:∀ x:Str,x ≠ "__name__" -> mb x=bootBuiltins x) (hlim:s₁.heap.NoLimit) (hse:s₁.heap.NoSeer) (htr:P.given.tree=none) (hg:s₁.gens = #[])
  (ha:s₁.heap.get? a=some { cls:=.type "list",data:=.seq vs.toArray }) (hi:IntsAre vs ns) (hl:ns.length<=sizeLine) (hr:Room k callerA)
  (F:∀ base:Heap,K.In base->base.Ns mainGlobals mg->FnOk P w K mg base CX k fa fd [x] sp) (hbind:∀(s:Shared) (u:Value),BindsTo s fd ⟨[u],[]⟩ [(x,u)])
  (hsp:∀ H:Hp,zM H->SqL K H a (ns.map V.int)->sp [.ref a] H (fun v _=>v = .bl true) fun _ _ _=>False)
  (hCX:∀ H e s',CX [] H s₁ (fun _ _ _=>False) e s'->False) :
  codeAny (model P w) callerA (.call (.ref fa) ⟨[.ref a],[]⟩) (fun r s'=>r = .ok (.ret (.bool true))/\OldK s₁.heap s'.heap/\s'.os=s₁.os/\AllBare s'.gens) s₁:=by
 have rv:=mF hi;have lenV:=hi.length
 -- from an abstract heap in which nothing but the script may be tracked
 have core:∀ H:Hp,zM H->SqL K H a (ns.map V.int)->HOk P w H s₁.heap->(∀ b,H b≠none->b=a)->(H a≠none->K.lookup a=none) ->
   codeAny (model P w) callerA (.call (.ref fa) ⟨[.ref a],[]⟩) (fun r s'=>r = .ok (.ret (.bool true))/\OldK s₁.heap s'.heap/\s'.os=s₁.os/\AllBare s'.gens) s₁:=by
  intro H hO hS hok hA hK;have base_of:∀{b:Addr} {o:Obj},s₁.heap.get? b=some o->H b=none->(mB s₁.heap H).get? b=some o:=fun e n=>uV e n;have noA:∀{b:Addr} {o:Obj} {es:Array DictEntry} {ep:Nat},s₁.heap.get? b=some o->o.data = .dict es ep->H b=none:=fun {b o es ep} e d=>by
   cases q:H b with
   | none=>rfl
   | some u =>
    have e':b=a:=hA b (by rw [q];simp);subst e';rw [ha] at e;cases e;have d':Data.seq vs.toArray _=Data.dict es ep:=d;cases d'
  have nsK:∀{b:Addr} {m:Str->Option Value},s₁.heap.Ns b m->(mB s₁.heap H).Ns b m:=fun {b m} ⟨o,es,ep,e,d,r⟩=>⟨o,es,ep,base_of e (noA e d),d,r⟩;have hKb:K.In (mB s₁.heap H):=fun b o e=>base_of (KX b o e) (by
   cases q:H b with
   | none=>rfl
   | some u =>
    have e':b=a:=hA b (by rw [q];simp);subst e';rw [hK (by rw [q];simp)] at e;cases e)
  have hM:Mod K mg (mB s₁.heap H):=⟨hKb,nsK hns,⟨mb,nsK hb,hbb⟩,let ⟨mc,h1,h2⟩:=hlim;⟨mc,nsK h1,h2⟩⟩;have hsr:(mB s₁.heap H).NoSeer:=by
   obtain⟨⟨mc,a1,b1⟩,⟨mm,a2,b2⟩,⟨mi,a3,b3⟩,⟨mq,bm,ob,a4,b4,c4,d4,e4⟩⟩:=hse;refine⟨⟨mc,nsK a1,b1⟩,⟨mm,nsK a2,b2⟩,⟨mi,nsK a3,b3⟩,⟨mq,bm,ob,nsK a4,b4,base_of c4 ?_,d4,e4⟩⟩;cases q:H bm with
   | none=>rfl
   | some u =>
    have e':bm=a:=hA bm (by rw [q];simp);subst e';rw [ha] at c4;cases c4;exact absurd (show (Value.type "list")=Value.type "module" from d4) (by decide)
  have e0:Env0 P w K mg (mB s₁.heap H) callerA [] s₁ H:=⟨rfl,hM,fun b o e=>wx e,Nat.le_of_eq (sT _ _),trivial,fun b hb=>absurd (show b∈([]:List Addr) from hb) (by simp),hok,.of_eq hg,hsr,htr⟩;refine codeAny_mono ((F _ hKb (nsK hns)).run callerA [] s₁ H ⟨[.ref a],[]⟩ [.ref a] [.ref a] _ _ hr e0 (hbind s₁ (.ref a)) (.cons rfl .nil) (hsp H hO hS)) fun r s' h=>?_;cases r with
  | error e=>exact (hCX H e s' h).elim
  | ok fl =>
   cases fl with
   | next=>exact False.elim h
   | brk=>exact False.elim h
   | cont=>exact False.elim h
   | ret u =>
    obtain⟨v,H',os,bare,un,hok',r',q⟩:=h;have q':v = .bl true:=q;subst q';obtain rfl:u=Value.bool true:=r';refine⟨rfl,OldK.of_keep fun b o e=>?_,os,bare⟩;cases q:H b with
    | none=>exact un.keep b o e q (by intro z;exact absurd (show b∈([]:List Addr) from z) (by simp)) (by simp)
    | some u =>
     rcases hO b with z|⟨ob,xs,z⟩
     ·rw [q] at z;cases z
     ·have z2:=un.frzs b ob _ z;obtain⟨e1,_⟩:=hok b _ z;obtain⟨e2,_⟩:=hok' b _ z2;rw [e] at e1;cases e1;exact e2
 cases hk:K.lookup a with
 | some o =>
  -- the script is one of the module's own objects
  have e:=KX a o hk;rw [ha] at e;cases e;refine core (fun _=>none) (fun _=>.inl rfl) (.inr ⟨_,vs.toArray,_,hk,rfl,rfl,rfl,by rw [af,lenV];exact hl,by simpa using rv⟩) (fun b u z=>by have z':(none:Option HO)=some u:=z;cases z') (fun b z=>absurd rfl z) fun z=>absurd rfl z
 | none =>
  refine core (fun b=>if b=a then some (.frz { cls:=.type "list",data:=.seq vs.toArray } (.lst (ns.map V.int))) else none) (fun b=>?_) (.inl (.inr ⟨{ cls:=.type "list",data:=.seq vs.toArray },if_pos rfl⟩)) (fun b u z=>?_) (fun b z=>?_) fun _=>hk
  ·by_cases hb:b=a
   ·exact .inr ⟨_,_,if_pos hb⟩
   ·exact .inl (if_neg hb)
  ·by_cases hb:b=a
   ·have z':=(if_pos hb).symm.trans z;cases z';subst hb;exact⟨ha,by rw [aj];exact hl,vs,_,rv,ha⟩
   ·have z':=(if_neg hb).symm.trans z;cases z'
  ·by_cases hb:b=a
   ·exact hb
   ·exact absurd (if_neg hb) z
end L2
namespace L2
open PySem PySem.Spec PyProof.Rows
theorem vE{l:PySem.W.OpenLaw}{n k:Nat}{q:Program}{loose:List Str}{XP:(Str->Option Value)->Heap->Prop}{YP:World->Heap->Prop}{d:DefRec}{K:Params->Frag}{CX:World->qH}{sp:World->Sp}{x:Str}
  (hn:l.most=some n) (hn2:n<=sizeLine) (hdf:d.params.defaults=[]) (hr:Room k callerA)
  (hY:∀(w:World) (h:Heap),YP w h->(K w.params).In h)
  (F:∀(w:World) (mg:Str->Option Value) (fa:Addr) (h:Heap),(K w.params).In h->h.Ns mainGlobals mg->mg d.name=some (.ref fa) ->
   ∃ fd:FuncData,(∀(s:Shared) (u:Value),BindsTo s fd ⟨[u],[]⟩ [(x,u)]) /\
    ∀ base:Heap,(K w.params).In base->base.Ns mainGlobals mg->FnOk l.prog w (K w.params) mg base (CX w) k fa fd [x] (sp w))
  (hsp:∀(w:World) (H:Hp) (a:Addr) (ns:List Int),ns.length<=n->zM H->SqL (K w.params) H a (ns.map V.int)->sp w [.ref a] H (fun v _=>v = .bl true) fun _ _ _=>False)
  (hCX:∀(w:World) (H:Hp) (s:Shared) (e:Value) (s':Shared),CX w [] H s (fun _ _ _=>False) e s'->False) (hi:importsNone q=true:=by decide +kernel) (ht:l.prog.given.tree=none:=by rfl) :
  PySem.W.WalkO q loose XP YP l.row.toRowW d [] (fun f vs=>PySem.call f vs):=by
 refine Att.pB hn hdf fun w s₀ s₁ mg mb fa o pm cd doc a vs ns G Y ho hd hcd hmg hobj hints hlen hg=>?_;have KX:=hY w _ Y;obtain⟨fd,hb,hF⟩:=F w mg fa _ KX G.T.g hmg;exact uK KX G.T.g G.T.b G.T.builtins G.T.nolimit (G.T.seer hi) ht hg hobj hints (az hlen hn2) hr hF hb (fun H hO hS=>hsp w H a ns hlen hO hS) fun H e s'=>hCX w H s₁ e s'
end L2
namespace L2
open PySem PySem.Spec PyProof.Rows
def jI(s:Stmt):Arguments:=match s with
 | .FunctionDef _ a _ _ _ _ _ _ _ _=>a
 | _=>{ posonlyargs:=[],args:=[],vararg:=none,kwonlyargs:=[],kw_defaults:=[],kwarg:=none,defaults:=[] }
def jc(s:Stmt):List Stmt:=match s with
 | .FunctionDef _ _ b _ _ _ _ _ _ _=>b
 | _=>[]
def iR(s:Stmt):Scope:=match s with
 | .FunctionDef _ _ _ _ _ _ sc _ _ _=>sc
 | _=>{ kind:=.function,names:=[],isGenerator:=false,isCoroutine:=false }
abbrev om:qH:=fun _ _ _ _ _ _=>False
abbrev E0:XK:=fun _ _ _=>False
theorem ui{X:Cx}:kE om X E0:=fun _ _ _ _ _ _ _ h=>h.elim
structure Fun (K:Frag)(x qual:Str)(st:Stmt)(f:Addr)(fd:FuncData):Prop where
 ex:∃(oc:Value) (od:Option Addr) (kV doc pm:Value) (an:Option Addr) (cdv ct:Value) (osl:Array (Option Value)),
  fd=PySem.W.fnOf x qual (jI st) (jc st) (iR st) .none kV doc pm an cdv ct/\K.lookup f=some ⟨oc,od,.func fd,osl⟩/\PySem.W.codeIn K cdv qual=true
 kp:PySem.W.keepIn K (.ref f)=true
section
variable{P:Program}{w:World}{K:Frag}{mg:Str->Option Value}{base:Heap}
theorem Fun.ok{x qual:Str}{st:Stmt}{f:Addr}{fd:FuncData}{N ps:List Str}{k:Nat}{sp:Sp}(F:Fun K x qual st f fd)(S:FnScope N ps (iR st))(len:∀ vs H Q E,sp vs H Q E->vs.length=ps.length)
  (hbody:∀(cdv:Value) (A:Around) (outer:List Env) (s:Shared) (H:Hp) (vs:List V) (Q:VK) (E:XK),Room k (A.deeper (envOfC qual (iR st) s.heap.objs.size f cdv))->sp vs H Q E ->
   ∃ t,PSs (n5 om P w K mg base N qual (iR st) f cdv A outer s H E).nox (jc st) t/\t { nx:=fun _ H'=>Q .non H',rt:=Q } (start N vs) H):FnOk P w K mg base om (k+1) f fd ps sp:=by
 obtain⟨oc,od,kV,doc,pm,an,cdv,ct,osl,rfl,lk,hcd⟩:=F.ex;refine Ba lk hcd S len fun A outer s H vs Q E hr hsp=>?_;obtain⟨t,h,q⟩:=hbody cdv A outer s H vs Q E hr hsp;exact⟨t,h.nox,q⟩
theorem Fun.binds{x qual:Str}{st:Stmt}{f:Addr}{fd:FuncData}{ps:List Str}(F:Fun K x qual st f fd)
  (h:∀(kV doc pm:Value) (an:Option Addr) (cdv ct:Value) (us:List Value),us.length=ps.length->bindArgs (PySem.W.fnOf x qual (jI st) (jc st) (iR st) .none kV doc pm an cdv ct) ⟨us,[]⟩=pure (ps.zip us)):Binds K fd ps []:=by
 obtain⟨oc,od,kV,doc,pm,an,cdv,ct,osl,rfl,lk,hcd⟩:=F.ex;exact .all (h kV doc pm an cdv ct)
theorem zl{x qual:Str}{st:Stmt}{f:Addr}{oc:Value}{od an:Option Addr}{osl:Array (Option Value)}{kV doc pm cdv ct:Value}(l:K.lookup f=some ⟨oc,od,.func (PySem.W.fnOf x qual (jI st) (jc st) (iR st) .none kV doc pm an cdv ct),osl⟩)
  (c:PySem.W.codeIn K cdv qual=true) (k:PySem.W.keepIn K (.ref f)=true):Fun K x qual st f (PySem.W.fnOf x qual (jI st) (jc st) (iR st) .none kV doc pm an cdv ct):=⟨⟨oc,od,kV,doc,pm,an,cdv,ct,osl,rfl,l,c⟩,k⟩
end
theorem A3{A:Around}{k:Nat}(hr:Room k A):A.units+1<cLine:=aQ (Nat.add_le_add_left (by decide:1<=64) _) hr.units
section
variable{X:Cx}
theorem pv(i:Nat){x:Str}{pos:Pos}(hN:X.N[i]? = some x:=by rfl)(hv:xp X.env.scope x:=by first|exact Or.inl rfl|exact Or.inr (Or.inl rfl)|exact Or.inr (Or.inr rfl))(hd:(x == ("__debug__" : Str))=false:=by decide)
  (hcd:(x == ("__classdict__" : Str))=false:=by decide):PE X (.Name x pos) (jO i):=lW hN hv hd hcd
end
theorem ze{A B:Prop}(h:B):if false=true then A else B:=by
 rw [if_neg am];exact h
theorem zd{A B:Prop}(h:A):if true=true then A else B:=by
 rw [if_pos rfl];exact h
theorem wM{c A B:Prop}[Decidable c](h1:c->A)(h2:¬ c->B):if c then A else B:=by
 by_cases h:c
 ·rw [if_pos h];exact h1 h
 ·rw [if_neg h];exact h2 h
theorem xN{c A B:Prop}[Decidable c](hc:c)(h:B):if (!decide c)=true then A else B:=by
 rw [decide_eq_true hc];exact ze h
def Same(H H':Hp):Prop:=∀ b o,H b=some o->H' b=some o
theorem Same.trans{H H1 H2:Hp}(a:Same H H1)(b:Same H1 H2):Same H H2:=fun c o h=>b c o (a c o h)
theorem Same.seq{K:Frag}{H H':Hp}{a:Addr}{xs:List V}(e:Same H H')(h:SqL K H a xs):SqL K H' a xs:=by
 rcases h with (h|⟨o,h⟩)|h
 ·exact .inl (.inl (e _ _ h))
 ·exact .inl (.inr ⟨o,e _ _ h⟩)
 ·exact .inr h
end L2
namespace L2
open PySem PySem.Spec PyProof.Rows
theorem i9{β:Type}:∀{l:List (Str×β)} {x:Str} {k:β},l.lookup x=some k->(x,k)∈l
 | [],_,_,h=>by simp at h
 | (n,k')::r,x,k,h=>by
  rw [bC] at h;cases e:x == n with
  | true =>
   rw [e] at h;have e':x=n:=eq_of_beq e;have h':some k'=some k:=h;cases h';rw [e'];exact av
  | false =>
   rw [e] at h;exact ar _ (i9 h)
theorem nP{β:Type}:∀{l:List (Str×β)} {x:Str} {k:β},(x,k)∈l->∃ k',l.lookup x=some k'
 | [],_,_,h=>by simp at h
 | (n,k')::r,x,k,h=>by
  rw [bC];cases e:x == n with
  | true=>exact⟨k',rfl⟩
  | false =>
   rcases ah.mp h with q|q
   ·cases q;simp at e
   ·exact nP q
def kF(env:Env)(x:Str)(k:NameKind):NameKind:=if (k == .free && env.scope.kind == .function && env.kindOf x == some .cell) then .cell else k
theorem kP{env:Env}{x:Str}:∀{l:List (Str×NameKind)},
  (l.map fun (n,k)=>if (k == NameKind.free && env.scope.kind == .function && env.kindOf n == some .cell) then (n,NameKind.cell) else (n,k)).lookup x=(l.lookup x).map (kF env x)
 | []=>rfl
 | (n,k)::r=>by
  rw [aH];have ih:=@kP env x r;have e0:(match ((n,k):Str×NameKind) with|(n,k)=>if (k == NameKind.free && env.scope.kind == .function && env.kindOf n == some .cell) then (n,NameKind.cell) else (n,k))=(n,kF env n k):=by
   show (if (k == NameKind.free && env.scope.kind == .function && env.kindOf n == some .cell)=true then (n,NameKind.cell) else (n,k))=(n,kF env n k);unfold kF;split <;> rfl
  rw [e0,bC,bC];cases e:x == n with
  | true =>
   have e':x=n:=eq_of_beq e;subst e';rfl
  | false=>exact ih
def jC(cells:List (Str×Addr)):List (Str×NameKind)->List (Str×Addr)->List (Str×Addr)
 | [],acc=>acc
 | (n,k)::r,acc=>if k == .free then jC cells r ((n,(cells.lookup n).getD 0)::acc) else jC cells r acc
theorem j9{cells:List (Str×Addr)}:∀{l:List (Str×NameKind)} {acc:List (Str×Addr)},(∀ y∈l,y.2 = .free->∃ c,cells.lookup y.1=some c)->(∀ p∈acc,cells.lookup p.1=some p.2) ->
  ∀ p∈jC cells l acc,cells.lookup p.1=some p.2
 | [],acc,_,ha,p,hp=>ha p hp
 | (n,k)::r,acc,hl,ha,p,hp=>by
  unfold jC at hp;have hl':∀ y∈r,y.2 = .free->∃ c,cells.lookup y.1=some c:=fun y hy=>hl y (ar _ hy);cases hk:k == NameKind.free with
  | true =>
   rw [hk,if_pos rfl] at hp;refine j9 hl' (fun q hq=>?_) p hp;rcases ah.mp hq with e|e
   ·subst e;obtain⟨c,e⟩:=hl (n,k) av (eq_of_beq hk);show cells.lookup n=some ((cells.lookup n).getD 0);rw [show cells.lookup n=some c from e];rfl
   ·exact ha q e
  | false =>
   rw [hk,if_neg am] at hp;exact j9 hl' ha p hp
theorem mh{cells:List (Str×Addr)}:∀{l:List (Str×NameKind)} {acc:List (Str×Addr)} {p:Str×Addr},p∈acc->p∈jC cells l acc
 | [],_,_,h=>h
 | (n,k)::r,acc,p,h=>by
  unfold jC;split
  ·exact mh (ar _ h)
  ·exact mh h
theorem kS{cells:List (Str×Addr)}:∀{l:List (Str×NameKind)} {acc:List (Str×Addr)} {x:Str},(x,NameKind.free)∈l->∃ c,(x,c)∈jC cells l acc
 | [],_,_,h=>by simp at h
 | (n,k)::r,acc,x,h=>by
  unfold jC;rcases ah.mp h with e|e
  ·cases e;rw [if_pos (by rfl)];exact⟨_,mh av⟩
  ·split
   ·exact kS e
   ·exact kS e
theorem kB{env:Env}:∀{l:List (Str×NameKind)} {acc:List (Str×Addr)},(∀ y∈l,y.2 = .free->∃ c,env.cells.lookup y.1=some c) ->
  (forIn l acc (fun (x:Str×NameKind) (r:List (Str×Addr))=>(if (x.2 == NameKind.free)=true then do let c ← cellOf env x.1;pure (ForInStep.yield ((x.1,c)::r)) else pure (ForInStep.yield r):Sem _)))=pure (jC env.cells l acc)
 | [],_,_=>rfl
 | (n,k)::r,acc,hl=>by
  have hl':∀ y∈r,y.2 = .free->∃ c,env.cells.lookup y.1=some c:=fun y hy=>hl y (ar _ hy);rw [List.forIn_cons];unfold jC;cases hk:k == NameKind.free with
  | true =>
   obtain⟨c,e⟩:=hl (n,k) av (eq_of_beq hk);have e':env.cells.lookup n=some c:=e;simp only [hk,if_true];rw [show cellOf env n=pure c by unfold cellOf;rw [e']];simp only [pure_bind];rw [kB hl',e'];rfl
  | false =>
   simp only [hk,a9,if_false,pure_bind];exact kB hl'
theorem ld{cells:List (Str×Addr)}:∀{l:List (Str×NameKind)} {acc:List (Str×Addr)} {p:Str×Addr},p∈jC cells l acc->p∈acc\/(p.1,NameKind.free)∈l
 | [],_,_,h=>.inl h
 | (n,k)::r,acc,p,h=>by
  unfold jC at h;split at h
  ·rename_i hk;rcases ld h with z|z
   ·rcases ah.mp z with e|e
    ·subst e;rw [eq_of_beq hk];exact .inr av
    ·exact .inl e
   ·exact .inr (ar _ z)
  ·exact (ld h).imp id (ar _)
theorem qx:∀{l:List (Str×NameKind)} {n:Nat} {acc:List (Str×Addr)} {p:Str×Addr},p∈cellsFrom n l acc->p∈acc\/(n<=p.2/\(p.1,NameKind.cell)∈l)
 | [],_,_,_,h=>.inl h
 | (x,k)::r,n,acc,p,h=>by
  unfold cellsFrom at h;split at h
  ·rename_i hk;rcases qx h with z|z
   ·rcases ah.mp z with e|e
    ·subst e;rw [eq_of_beq hk];exact .inr ⟨ai _,av⟩
    ·exact .inl e
   ·exact .inr ⟨bx z.1,ar _ z.2⟩
  ·exact (qx h).imp id fun z=>⟨z.1,ar _ z.2⟩
theorem mj:∀{l:List (Str×NameKind)} {n:Nat} {acc:List (Str×Addr)} {p:Str×Addr},p∈acc->p∈cellsFrom n l acc
 | [],_,_,_,h=>h
 | (x,k)::r,n,acc,p,h=>by
  unfold cellsFrom;split
  ·exact mj (ar _ h)
  ·exact mj h
theorem vd:∀{l:List (Str×NameKind)} {n:Nat} {acc:List (Str×Addr)} {x:Str},(x,NameKind.cell)∈l->∃ c,(x,c)∈cellsFrom n l acc
 | [],_,_,_,h=>by simp at h
 | (y,k)::r,n,acc,x,h=>by
  unfold cellsFrom;rcases ah.mp h with e|e
  ·cases e;rw [if_pos (by rfl)];exact⟨_,mj av⟩
  ·split <;> exact vd e
theorem qy:∀{l:List (Str×NameKind)} {n:Nat} {acc:List (Str×Addr)},(∀ p∈acc,p.2<n)->(∀ x y c,(x,c)∈acc->(y,c)∈acc->x=y)->∀ x y c,(x,c)∈cellsFrom n l acc->(y,c)∈cellsFrom n l acc->x=y
 | [],_,_,_,h=>h
 | (z,k)::r,n,acc,hl,h=>by
  unfold cellsFrom;split
  ·refine qy (fun p hp=>?_) fun x y c hx hy=>?_
   ·rcases ah.mp hp with e|e
    ·subst e;exact bp _
    ·exact cm (hl p e)
   ·rcases ah.mp hx with e|e <;> rcases ah.mp hy with e'|e'
    ·cases e;cases e';rfl
    ·cases e;exact absurd (hl _ e') (aN _)
    ·cases e';exact absurd (hl _ e) (aN _)
    ·exact h x y c e e'
  ·exact qy hl h
theorem n8:∀{l:List (Str×NameKind)} {h:Heap} {acc:List (Str×Addr)} {p:Str×Addr},p∈cellsFrom h.objs.size l acc->p∈acc\/(pushCells h l).IsCell p.2 none
 | [],_,_,_,q=>.inl q
 | (x,k)::r,h,acc,p,q=>by
  unfold cellsFrom at q;unfold pushCells;split at q
  ·rename_i hk;rw [if_pos hk];rw [← Heap.size_push h { cls:=.type "cell",data:=.cell none }] at q;rcases n8 q with z|z
   ·rcases ah.mp z with e|e
    ·subst e;exact .inr ⟨_,pushCells_keeps _ _ _ _ (Heap.get?_push_size _ rfl),rfl⟩
    ·exact .inl e
   ·exact .inr z
  ·rename_i hk;rw [if_neg hk];exact n8 q
theorem me{cells:List (Str×Addr)}{names:List (Str×NameKind)}{n:Nat}{x:Str}{c:Addr}(hfr:∀ y∈names,y.2 = .free->∃ c,cells.lookup y.1=some c)(h:(x,c)∈cellsFrom n names (jC cells names [])) :
  (cells.lookup x=some c/\(x,NameKind.free)∈names)\/(n<=c/\(x,NameKind.cell)∈names):=by
 rcases qx h with z|z
 ·refine .inl ⟨j9 hfr (fun _ z=>absurd z au) (x,c) z,?_⟩;rcases ld z with w|w
  ·exact absurd w au
  ·exact w
 ·exact .inr z
theorem wA{M:Model}{A:Around}{E:Value->Shared->Prop}{s:Shared}{scope:Scope}{g:Addr}{cl:List (Str×Addr)}{qual:Str}{env:Env}{Q:Env->Shared->Prop}
  (h:Q (newEnv scope s.heap.objs.size g (cellsFrom (s.heap.objs.size+1) scope.names cl) qual none .none (some env) builtinsNs) { s with heap:=pushCells (s.heap.push { cls:=.type "dict",data:=.dict #[] }) scope.names }) :
  wpAny M A (newFunctionEnv scope g cl [] qual none .none (some env)) Q E s:=by
 simp only [newFunctionEnv,cI,if_true];refine wpAny_bind (wpAny_alloc ?_);refine wpAny_bind (wpAny_layCells _ (fun name kind cells=>by cases hkc:kind == NameKind.cell <;> simp [hkc]) _ _ _ _ ?_);rw [show ({ s with heap:=s.heap.push { cls:=.type "dict",data:=.dict #[] } }:Shared).heap.objs.size=s.heap.objs.size+1 from Heap.size_push ..];refine wpAny_bind ?_;rw [List.forIn_nil];exact wpAny_pure (wpAny_pure h)
def lx(hide:List Nat)(σ:St):St:=hide.foldl (fun s i=>s.set i none) σ
theorem hideS_len:∀{hide:List Nat} {σ:St},(lx hide σ).length=σ.length
 | [],_=>rfl
 | i::r,σ=>by
  show (lx r (σ.set i none)).length=_;rw [hideS_len,aO]
theorem m7:∀{hide:List Nat} {σ:St} {i:Nat} {v:V},(lx hide σ)[i]? = some (some v)->i ∉ hide/\σ[i]? = some (some v)
 | [],_,_,_,h=>⟨by simp,h⟩
 | j::r,σ,i,v,h=>by
  obtain⟨h1,h2⟩:=m7 (hide:=r) (σ:=σ.set j none) h;by_cases e:j=i
  ·subst e;by_cases hl:j<σ.length
   ·rw [br hl] at h2;cases h2
   ·rw [b0 (by simp;omega)] at h2;cases h2
  ·rw [ax e] at h2;exact⟨by simp [h1,Ne.symm e],h2⟩
def kq(X:Cx)(scope:Scope)(s2:Shared)(H2:Hp)(fp:List Addr)(pins:List (Addr×Obj))(C:Addr):Cx where
 prog:=X.prog
 w:=X.w
 K:=X.K
 mg:=X.mg
 base:=X.base
 A:=X.A
 N:=X.N
 s₀:=s2
 H₀:=H2
 env:=compEnvC scope (cellsFrom (C+1) scope.names (jC X.env.cells scope.names [])) C X.env
 outer:=X.stack
 stack:=X.stack
 ex:=fp
 fn:=fun x=>scope.names.lookup x == some .cell
 calm:=X.calm
 pn:=X.pn++pins
 xe:=fun _ _=>False
structure CompS (N:List Str)(out:Scope)(scope:Scope)(hide:List Nat):Prop where
 kind:scope.kind = .function
 one:∀ y∈scope.names,scope.names.lookup y.1=some y.2
 free:∀ y∈scope.names,y.2 = .free->out.names.lookup y.1=some .cell\/out.names.lookup y.1=some .free
 loc:∀ y∈scope.names,y.2 = .local->scope.names.lookup y.1=some .local
 own:∀(i:Nat),i<N.length->(scope.names.lookup (N.getD i "")=some .local\/scope.names.lookup (N.getD i "")=some .cell)->i∈hide
section
variable{X:Cx}{pins:List (Addr×Obj)}{σ:St}{H:Hp}{s:Shared}
theorem DC{scope:Scope}{hide:List Nat}(S:CompS X.N X.env.scope scope hide){fp:List Addr}{C:Addr}(I:Inv X pins σ H s)(hf:∀ b∈fp,ke X pins H b)(hfo:∀ b∈fp,∃ o,s.heap.get? b=some o)
  (hC:s.heap.objs.size<=C):(kq X scope s H fp pins C).Ok:=by
 have hfr:∀ y∈scope.names,y.2 = .free->∃ c,X.env.cells.lookup y.1=some c:=fun y hy e=>I.ok.has y.1 (S.free y hy e);have old:∀ x c,X.env.cells.lookup x=some c->c<s.heap.objs.size:=fun x c e=>by
  obtain⟨v,o,ho,_⟩:=I.cell x c e;exact Heap.lt_size ho
 have cl:∀ p∈jC X.env.cells scope.names [],X.env.cells.lookup p.1=some p.2:=j9 hfr fun _ z=>absurd z au;refine⟨I.ok.mod,S.kind,I.ok.glob,I.ok.blt,hC,fun x y c e1 e2=>qy (fun p hp=>cm (ak (old _ _ (cl p hp)) hC)) (fun x y c h1 h2=>I.ok.inj x y c (cl _ h1) (cl _ h2)) x y c (i9 e1) (i9 e2),fun x hx=>?_,fun x c h e=>?_,I.ok.hd,I.ok.frames,.inl rfl,fun b hb=>⟨?_,fun x c e=>?_⟩,I.bs,
  az I.ok.bsz I.sz,fun b o e hb=>?_,fun b hb z=>?_,I.stack,I.stkFree,I.ok.sr,I.ok.rn⟩
 ·have hx':((scope.names.lookup x).map (kF X.env x)=some .cell)\/((scope.names.lookup x).map (kF X.env x)=some .free):=by
   rw [← kP];exact hx
  cases q:scope.names.lookup x with
  | none=>rw [q] at hx';rcases hx' with z|z <;> cases z
  | some k =>
   have mem:=i9 q;have kf:k = .free\/k = .cell:=by
    rw [q] at hx';have hx2:kF X.env x k = .cell\/kF X.env x k = .free:=hx'.imp Option.some.inj Option.some.inj;unfold kF at hx2;by_cases c:(k == NameKind.free && X.env.scope.kind == .function && X.env.kindOf x == some .cell)=true
    ·simp only [aC,beq_iff_eq] at c;exact .inl c.1.1
    ·rw [if_neg c] at hx2;exact hx2.symm
   rcases kf with kf|kf
   ·subst kf;obtain⟨c,hc⟩:=kS (cells:=X.env.cells) (acc:=[]) mem;exact nP (mj hc)
   ·subst kf;obtain⟨c,hc⟩:=vd (n:=C+1) (acc:=jC X.env.cells scope.names []) mem;exact nP hc
 ·have h:scope.names.lookup x=some .cell:=eq_of_beq h;rcases me hfr (i9 e) with⟨_,z⟩|⟨z,_⟩
  ·rw [S.one _ z] at h;cases h
  ·exact az hC (bx z)
 ·obtain⟨o,e⟩:=hfo b hb;exact aD (ak (Heap.lt_size e) hC)
 ·obtain⟨o,e'⟩:=hfo b hb;rcases me hfr (i9 e) with⟨z,_⟩|⟨z,_⟩
  ·exact (hf b hb).2.2.2.2.1 x c z
  ·exact bU (ak (Heap.lt_size e') (az hC (bx z)))
 ·rcases (hf b hb).2.2.2.1 with z|z
  ·exact I.ok.noex b o e z
  ·exact absurd (ak (Heap.lt_size (I.ok.bs b o e).1) z) (aN _)
 ·rcases ah.mp (I.stkSub b z) with q|q
  ·exact (hf b hb).2.1 q
  ·exact (hf b hb).2.2.1 q
theorem Bv(I:Inv X pins σ H s){a:Addr}(h:s.heap.objs.size<=a):a ∉ pe X.stack:=fun z=>by
 rcases ah.mp (I.stkSub a z) with q|q
 ·exact absurd (ak I.lt (by rw [← q];exact h)) (aN _)
 ·exact I.nofs h q
theorem CF{scope:Scope}{hide:List Nat}(S:CompS X.N X.env.scope scope hide){fp:List Addr}{C D:Addr}{h4:Heap}{tk:Nat}{ob:Obj}{m:Str->Option Value}(I:Inv X pins σ H s)(hf:∀ b∈fp,ke X pins H b)(hfo:∀ b∈fp,∃ o,s.heap.get? b=some o)
  (hC:s.heap.objs.size<=C) (hD:s.heap.objs.size<=D) (hDC:D≠C) (k:∀ b u,s.heap.get? b=some u->h4.get? b=some u) (hcl:∀ p∈cellsFrom (C+1) scope.names (jC X.env.cells scope.names []),p∈jC X.env.cells scope.names []\/h4.IsCell p.2 none) (hn:h4.Ns C m) (hDo:h4.get? D=some ob) (hob:∀ v,ob.data ≠ .cell v) :
  Inv (kq X scope s H fp pins C) [(D,ob)] (lx hide σ) H { s with heap:=h4,toks:=tk }:=by
 have ok:=DC S I hf hfo hC;have hfr:∀ y∈scope.names,y.2 = .free->∃ c,X.env.cells.lookup y.1=some c:=fun y hy e=>I.ok.has y.1 (S.free y hy e);have sub:∀ x c,(x,c)∈jC X.env.cells scope.names []->X.env.cells.lookup x=some c:=fun x c e=>j9 hfr (fun _ z=>absurd z au) (x,c) e;have ck:∀ c v,s.heap.IsCell c v->h4.IsCell c v:=fun c v ⟨o,ho,hd⟩=>⟨o,k c o ho,hd⟩;refine⟨ok,rfl,I.bare,Un.kept k,⟨m,hn,fun i x v e1 e2 e3=>?_⟩,fun x c e=>?_,I.hok.fresh hC,fun x c e=>?_,fun p hp=>?_,I.hok.kept k,hideS_len.trans I.len⟩
 ·obtain⟨n1,n2⟩:=m7 e2;have e3':((scope.names.lookup x).map (kF X.env x)=some .local)\/((scope.names.lookup x).map (kF X.env x)=some .cell)\/((scope.names.lookup x).map (kF X.env x)=some .free):=by
   rw [← kP];exact e3
  cases q:scope.names.lookup x with
  | none=>rw [q] at e3';rcases e3' with z|z|z <;> cases z
  | some kd =>
   rw [q] at e3';have e4:kF X.env x kd = .local\/kF X.env x kd = .cell\/kF X.env x kd = .free:=e3'.imp Option.some.inj fun z=>z.imp Option.some.inj Option.some.inj;have mem:=i9 q;by_cases kl:kd = .local\/kd = .cell
   ·have hi:X.N[i]? = some x:=e1;obtain⟨hlt,hge⟩:=aq.mp hi;refine absurd (S.own i hlt ?_) n1;rw [bA,hi];exact kl.imp (fun z=>by rw [← z];exact q) fun z=>by rw [← z];exact q
   ·have kf:kd = .free:=by
     unfold kF at e4;by_cases c:(kd == NameKind.free && X.env.scope.kind == .function && X.env.kindOf x == some .cell)=true
     ·simp only [aC,beq_iff_eq] at c;exact c.1.1
     ·rw [if_neg c] at e4;rcases e4 with z|z|z
      ·exact absurd (.inl z) kl
      ·exact absurd (.inr z) kl
      ·exact z
    subst kf;have kx:=S.free _ mem rfl;obtain⟨m0,_,hl⟩:=I.loc;obtain⟨u,r,l⟩:=hl i x v e1 n2 (.inr kx);refine⟨u,r,?_⟩;rcases l with⟨z,_⟩|⟨_,c,e,z⟩
    ·have z':X.env.scope.names.lookup x=some .local:=z;rw [z'] at kx;rcases kx with w|w <;> cases w
    ·obtain⟨c',hc'⟩:=kS (cells:=X.env.cells) (acc:=[]) mem;obtain⟨c2,hc2⟩:=nP (mj (n:=C+1) (l:=scope.names) hc');have ec:c2=c:=by
      rcases me hfr (i9 hc2) with⟨w,_⟩|⟨_,w⟩
      ·exact Option.some.inj (w.symm.trans e)
      ·have w1:=S.one _ w;rw [q] at w1;cases w1
     subst ec;refine .inr ⟨?_,c2,hc2,ck c2 _ z⟩;have e5:((relabel scope X.env).names.lookup x)=some (kF X.env x .free):=by
      show (List.map _ scope.names).lookup x=_;rw [kP,q];rfl
     rcases e4 with w|w|w
     ·unfold kF at w;split at w <;> cases w
     ·exact .inl (e5.trans (by rw [w]))
     ·exact .inr (e5.trans (by rw [w]))
 ·rcases hcl _ (i9 e) with w|w
  ·obtain⟨v,z⟩:=I.cell x c (sub x c w);exact⟨v,ck c v z⟩
  ·exact⟨_,w⟩
 ·rcases me hfr (i9 e) with⟨w,_⟩|⟨w,_⟩
  ·exact I.freeC x c w
  ·exact I.hok.fresh (az hC (bx w))
 ·rcases bd.mp hp with z|z
  ·obtain⟨e,n,ne,nf,d⟩:=I.pin p z;refine⟨k _ _ e,n,aD (ak (Heap.lt_size e) hC),fun y=>?_,d⟩;rcases ah.mp (I.stkSub _ y) with q|q
   ·exact ne q
   ·exact nf q
  ·have e:p=(D,ob):=by simpa using z
   subst e;exact⟨hDo,I.hok.fresh hD,hDC,Bv I hD,hob⟩
theorem CD{scope:Scope}{fp:List Addr}{C D:Addr}{n:Nat}{its:List Value}{ys:List V}{pins':List (Addr×Obj)}{τ:St}{H':Hp}{s':Shared}(I:Inv X pins σ H s)(hf:∀ b∈fp,ke X pins H b)
  (hD:s.heap.objs.size<=D) (J:Inv (kq X scope s H fp pins C) pins' τ H' s') (hp:(D,({ cls:=.type "list",data:=.seq its.toArray n }:Obj))∈pins') (hv:Vals ys its) (hz:ys.length<=sizeLine) :
  Inv X pins σ (i6 H' D (.lst ys)) s':=by
 obtain⟨eD,nD,_⟩:=J.pin _ (aE _ hp);have u:Un (pe X.stack) fp H H' s.heap s'.heap:=J.base;have ne:∀ b o,s.heap.get? b=some o->b≠D:=fun b o e=>aD (ak (Heap.lt_size e) hD);have u':Un (pe X.stack) fp H (i6 H' D (.lst ys)) s.heap s'.heap:=by
  refine⟨u.keep,u.slot,fun b o e q hx=>?_,u.there,fun b xs e=>?_,fun b o v e=>?_,fun b ps e=>?_⟩
  ·rw [iT (ne b o e)];exact u.free b o e q hx
  ·have q:=u.tups b xs e;rw [iT (iZ q nD)];exact q
  ·have q:=u.frzs b o v e;rw [iT (iZ q nD)];exact q
  ·obtain⟨more,q⟩:=u.tbls b ps e;refine⟨more,?_⟩;rw [iT (iZ q nD)];exact q
 have hok:HOk X.prog X.w (i6 H' D (.lst ys)) s'.heap:=fun b o e=>by
  by_cases hb:b=D
  ·subst hb;rw [iU] at e;cases e;exact⟨hz,its,n,hv,eD⟩
  ·rw [iT hb] at e;exact (J.hok b o e).stay (fun _ _ _ q=>q) (fun c q=>by rw [iT (iZ q nD)];exact q) fun c xs q=>by rw [iT (iZ q nD)];exact q
 refine I.call' (show s'.os=s.os from J.os) u' hok J.bare fun b hb=>?_;obtain⟨f0,f1,f2,f3,f4,f5⟩:=hf b hb;exact⟨f3,f1,f4,f5⟩
end
abbrev l7(its:List Value)(n:Nat):Obj:={ cls:=.type "list",data:=.seq its.toArray n }
def PTs(X:Cx)(ifs:List Expr)(t:TT):Prop :=
 ∀(pins:List (Addr×Obj)) (s:Shared) (σ:St) (H:Hp) (Q:Bool->Hp->Prop),Inv X pins σ H s->t σ H Q ->
  wpAny (model X.prog X.w) X.A (forIn ifs true fun c r=>if r=true then do let ok ← isTrue c X.env (eval c X.env);pure (ForInStep.yield ok) else pure (ForInStep.yield r)) (TP X pins σ Q) X.xe s
def Ac:TT:=fun _ H Q=>Q true H
theorem pts_nil{X:Cx}:PTs X [] Ac:=fun _ _ _ H _ I h=>wpAny_tests_nil ⟨H,I,h⟩
theorem vW{X:Cx}{c:Expr}{t:TT}(hc:PT X c t):PTs X [c] t:=fun pins s σ H Q I h=>wpAny_tests_one (hc pins s σ H Q I h)
theorem Bk{Y:Cx}{tg iter elt:Expr}{ifs:List Expr}{scope:Scope}{pos:Pos}{g:TG}{te:TE}{tt:TT}{J:It}{fp:List Addr}{it D:Addr}{tn:Nat->Heap->Prop}{R:Result->Shared->Prop}
  {W:Nat->Nat->St->List V->Hp->Prop} {Z:List V->Hp->Prop} {s:Shared} {σ:St} {H:Hp} {m n0:Nat}
  (T:Turn Y.prog Y.w Y.K tg J fp it tn) (hc:Y.calm=true) (hg:PG Y tg g) (ht:PTs Y ifs tt) (he:PE Y elt te) (hx:∀ e s,Y.xe e s->False)
  (stat:∀ ob H',(∀ b∈fp,H' b=none)->∀ b∈fp,ke Y [(D,ob)] H' b) (hDs:Y.s₀.heap.objs.size<=D) (hDc:∀ x c,Y.env.cells.lookup x=some c->c≠D) (hDp:∀ p∈Y.pn,p.1≠D)
  (turn:∀ k m τ ys H,W k m τ ys H->(J.stop k H/\Z ys H)\/(J.go k H/\ys.length<sizeLine/\∀ x H',J.yld k H x H'->g x τ H' fun τ2 H2=>tt τ2 H2 fun b H3 =>
   if b=true then te τ2 H3 fun v H4=>∃ m',m'<m/\W (k+1) m' τ2 (ys++[v]) H4 else ∃ m',m'<m/\W (k+1) m' τ2 ys H3))
  (out:∀(τ:St) (H':Hp) (s':Shared) (ys:List V) (its:List Value) (n:Nat),Inv Y [(D,l7 its n)] τ H' s'->Vals ys its->ys.length<=sizeLine->Z ys H'->R (.ok .next) s')
  (I:Inv Y [(D,l7 [] n0)] σ H s) (st:tn 0 s.heap) (fr:∀ b∈fp,H b=none) (w0:W 0 m σ [] H) :
  codeAny (model Y.prog Y.w) Y.A (.compLoop (.ListComp elt [⟨tg,iter,ifs,0⟩] scope pos) 0 (.ref it) (.ref D) Y.env) R s:=by
 refine codeAny_loop rfl (fun m s'=>∃ k τ H' ys its n,Inv Y [(D,l7 its n)] τ H' s'/\tn k s'.heap/\(∀ b∈fp,H' b=none)/\Vals ys its/\ys.length<=sizeLine/\W k m τ ys H') (fun m1 s1 h1=>?_) m ⟨0,σ,H,[],[],n0,I,st,fr,.nil,aS _,w0⟩;obtain⟨k,τ,H1,ys,its,n,I1,st1,fr1,rv,hz,w1⟩:=h1;have no:∀{E:Value->Shared->Prop} {α:Type} {c:Sem α} {Q:α->Shared->Prop} {s:Shared},wpAny (model Y.prog Y.w) Y.A c Q Y.xe s->wpAny (model Y.prog Y.w) Y.A c Q E s:=fun {E α c Q s} h=>wpAny_mono h (fun _ _ q=>q) fun e s' q=>(hx e s' q).elim;show wpAny _ Y.A ((compTurn (.ListComp elt [⟨tg,iter,ifs,0⟩] scope pos) 0 (.ref it) (.ref D) Y.env).onRaise _) _ _ s1;refine wpAny_noted ?_;rw [compTurn_list];refine wpAny_bind (wpAny_standAt (wpAny_bind ?_));rcases turn k m1 τ ys H1 w1 with⟨stop,z⟩|⟨go,hlt,step⟩
 ·refine ja (T.done Y rfl rfl rfl hc k _ s1 τ H1 _ I1 (stat _ _ fr1) st1 stop) fun r s2 ⟨hr,I2⟩=>?_;subst hr;exact wpAny_pure (out τ H1 s2 ys its n I2 rv hz z)
 ·refine ja (T.item Y rfl rfl rfl hc k _ s1 τ H1 _ I1 (stat _ _ fr1) st1 go) fun r s2 ⟨u,hr,h2⟩=>?_;subst hr;refine wpAny_bind (ja h2 fun _ s3 ⟨x,H3,I3,r3,y3,st3,fr3⟩=>?_);have I3':=I3.pinned (stat _ _ fr3) (T.obj _ _ st3);refine wpAny_bind (no (ja (hg _ s3 τ H3 x u _ I3' r3 (step x H3 y3)) fun _ s4 ⟨τ4,H4,I4,q4⟩=>?_));refine wpAny_bind (no (ja (ht _ s4 τ4 H4 _ I4 q4) fun ok s5 ⟨H5,I5,q5⟩=>?_));have frs5:∀{H':Hp} {s':Shared} {τ':St},Inv Y ([(D,l7 its n)]++lV fp s3.heap) τ' H' s'->tn (k+1) s'.heap/\∀ b∈fp,H' b=none:=fun {H' s' τ'} I'=>by
   refine⟨T.keep _ _ _ st3 fun b hb o e=>(I'.pin (b,o) (aE _ (aE _ (jV hb e)))).1,fun b hb=>?_⟩;obtain⟨o,e,d⟩:=T.obj _ _ st3 b hb;exact (I'.pin (b,o) (aE _ (aE _ (jV hb e)))).2.1
  cases ok with
  | false =>
   have q5':∃ m',m'<m1/\W (k+1) m' τ4 ys H5:=q5;obtain⟨m',hm,w5⟩:=q5';obtain⟨a1,a2⟩:=frs5 I5;exact wpAny_pure ⟨rfl,m',hm,k+1,τ4,H5,ys,its,n,I5.unpinned,a1,a2,rv,hz,w5⟩
  | true =>
   have q5':te τ4 H5 fun v H4=>∃ m',m'<m1/\W (k+1) m' τ4 (ys++[v]) H4:=q5;refine wpAny_bind (wpAny_bind (no (ja (he _ s5 τ4 H5 _ I5 q5') fun v s6 ⟨y,H6,I6,r6,m',hm,w6⟩=>?_)));obtain⟨a1,a2⟩:=frs5 I6;have I7:=I6.unpinned;obtain⟨eD,nD,neD,nfD,_⟩:=I7.pin (D,l7 its n) (aE _ av);have hlen:=rv.length;have eD':s6.heap.get? D=some { cls:=.type "list",data:=.seq its.toArray n }:=eD;refine wpAny_bind (call_meets F.slot_list_append ⟨_,eD',rfl⟩ F.entry_list_append (F.args_list_append_2 _ _) (PySem.list_append D its.toArray n v (by rw [af];omega)) ⟨eD',?_⟩);have qD:=PySem.IsL.update eD' (·.push v);have I8:Inv Y [] τ4 H6 s6:=I7.pins_of fun p hp=>absurd hp au;have I9:Inv Y [] τ4 H6 { s6 with heap:=s6.heap.update D (Obj.mapSeq (·.push v)) }:=I8.turned (t':=s6.toks) (fun b o hb e=>(Heap.get?_update_other s6.heap (Obj.mapSeq (·.push v)) (Ne.symm hb)).trans e) nD neD (.inr hDs) hDc fun p hp=>hDp p (by simpa using hp);have ep:its.toArray.push v=(its++[v]).toArray:=by simp
   rw [ep] at qD;obtain⟨n2,qD⟩:∃ n2,(s6.heap.update D (Obj.mapSeq (·.push v))).get? D=some (l7 (its++[v]) n2):=⟨_,qD⟩;have I10:Inv Y [(D,l7 (its++[v]) n2)] τ4 H6 { s6 with heap:=s6.heap.update D (Obj.mapSeq (·.push v)) }:=I9.pins_of fun p hp=>by
    have e:p=(D,l7 (its++[v]) n2):=by simpa using hp
    subst e;exact⟨qD,nD,neD,nfD,fun v z=>by have z':Data.seq _ _=Data.cell v:=z;cases z'⟩
   refine wpAny_pure (wpAny_pure ⟨rfl,m',hm,k+1,τ4,H6,ys++[y],its++[v],_,I10,?_,a2,rv.append (.cons r6 .nil),?_,w6⟩)
   ·refine T.keep _ _ _ a1 fun b hb o e=>(Heap.get?_update_other s6.heap (Obj.mapSeq (·.push v)) ?_).trans e;have f5:=(stat (l7 its n) H6 a2 b hb).2.2.2.2.2;exact f5 (D,l7 its n) (aE _ av)
   ·rw [aB,bY];omega
theorem mf{scope:Scope}{env:Env}(h:∀ y∈scope.names,y.2 = .free->∃ c,env.cells.lookup y.1=some c):closureFor scope env=pure (jC env.cells scope.names []):=by
 have q:=kB (env:=env) (acc:=[]) h;unfold closureFor;show (forIn scope.names [] _ >>= fun r=>pure r)=_;refine Eq.trans (congrArg (· >>= fun r=>pure r) (Eq.trans ?_ q)) (by simp);refine congrArg (forIn scope.names []) ?_;funext x r;obtain⟨n,k⟩:=x;first
  | rfl
  | (dsimp only;split <;> simp)
def vz(J:It)(g:TG)(tt:TT)(te:TE)(σ:St)(Q:VK)(H1:Hp):Prop:=∃ W:Nat->Nat->St->List V->Hp->Prop,(∃ m,W 0 m σ [] H1) /\
 ∀ k m τ ys H,W k m τ ys H->(J.stop k H/\∀ D,H D=none->Q (.ref D) (i6 H D (.lst ys)))\/(J.go k H/\ys.length<sizeLine/\∀ x H',J.yld k H x H'->g x τ H' fun τ2 H2=>tt τ2 H2 fun b H3 =>
   if b=true then te τ2 H3 fun v H4=>∃ m',m'<m/\W (k+1) m' τ2 (ys++[v]) H4 else ∃ m',m'<m/\W (k+1) m' τ2 ys H3)
def xA(wi:TI)(hide:List Nat)(g:TG)(tt:TT)(te:TE):TE:=fun σ H Q=>wi σ H fun J H1=>vz J g tt te (lx hide σ) Q H1
theorem vj{X:Cx}{pins:List (Addr×Obj)}{σ:St}{H:Hp}{s:Shared}{elt tg iter:Expr}{ifs:List Expr}{scope:Scope}{pos:Pos}{hide:List Nat}{g:TG}{te:TE}{tt:TT}{J:It}{fp:List Addr}{it:Addr}{tn:Nat->Heap->Prop}{RR:Value->Addr->Result->Shared->Prop}{Q:VK}{E:Value->Shared->Prop}
  (hc:X.calm=true) (S:CompS X.N X.env.scope scope hide)
  (hg:∀ s2 H2 fp pins C,PG (kq X scope s2 H2 fp pins C) tg g) (ht:∀ s2 H2 fp pins C,PTs (kq X scope s2 H2 fp pins C) ifs tt) (he:∀ s2 H2 fp pins C,PE (kq X scope s2 H2 fp pins C) elt te)
  (I:Inv X pins σ H s) (T:Turn X.prog X.w X.K tg J fp it tn) (st:tn 0 s.heap) (hf:∀ b∈fp,ke X pins H b)
  (h:∃ W:Nat->Nat->St->List V->Hp->Prop,(∃ m,W 0 m (lx hide σ) [] H) /\
   ∀ k m τ ys H,W k m τ ys H->(J.stop k H/\∀ D,H D=none->Q (.ref D) (i6 H D (.lst ys)))\/(J.go k H/\ys.length<sizeLine/\∀ x H',J.yld k H x H'->g x τ H' fun τ2 H2=>tt τ2 H2 fun b H3 =>
    if b=true then te τ2 H3 fun v H4=>∃ m',m'<m/\W (k+1) m' τ2 (ys++[v]) H4 else ∃ m',m'<m/\W (k+1) m' τ2 ys H3))
  (hRR:∀ D C s' ys H',Inv X pins σ (i6 H' D (.lst ys)) s'->ke X pins (i6 H' D (.lst ys)) C->(∃ m,s'.heap.Ns C m)->Q (.ref D) (i6 H' D (.lst ys))->RR (.ref D) C (.ok .next) s') :
  wpAny (model X.prog X.w) X.A (newList []) (fun acc s3=>wpAny (model X.prog X.w) X.A (newFunctionEnv scope X.env.globals (jC X.env.cells scope.names []) [] X.env.qual none .none (some X.env)) (fun cenv s4 =>
   codeAny (model X.prog X.w) X.A (.compStart (.ListComp elt [⟨tg,iter,ifs,0⟩] scope pos) 0 (.ref it) acc { cenv with scope:=relabel scope X.env }) (RR acc cenv.locals) s4) E s3) E s:=by
 obtain⟨W,⟨m0,w0⟩,turn⟩:=h;refine wpAny_newList (wA ?_) (by simp);dsimp only;generalize hH2:s.heap.push { cls:=.type "list",data:=.seq ([]:List Value).toArray }=H2;have hC:H2.objs.size=s.heap.objs.size+1:=by rw [← hH2,Heap.size_push]
 have k2:∀ b o,H2.get? b=some o->(pushCells (H2.push { cls:=.type "dict",data:=.dict #[] }) scope.names).get? b=some o:=fun b o e=>pushCells_keeps _ _ b o (Heap.get?_push_of_some _ e);have hcl:∀ p∈cellsFrom (H2.objs.size+1) scope.names (jC X.env.cells scope.names []),p∈jC X.env.cells scope.names []\/(pushCells (H2.push { cls:=.type "dict",data:=.dict #[] }) scope.names).IsCell p.2 none:=fun p hp=>by
  rw [← Heap.size_push H2 { cls:=.type "dict",data:=.dict #[] }] at hp;exact n8 hp
 have hns₁:(pushCells (H2.push { cls:=.type "dict",data:=.dict #[] }) scope.names).Ns H2.objs.size fun _=>none:=(Heap.Ns.new H2 (.type "dict")).keeps (pushCells_keeps _ _);generalize pushCells (H2.push { cls:=.type "dict",data:=.dict #[] }) scope.names=h₁ at k2 hcl hns₁ ⊢;have k1:∀ b o,s.heap.get? b=some o->h₁.get? b=some o:=fun b o e=>k2 b o (hH2 ▸ Heap.get?_push_of_some _ e);have hDC:s.heap.objs.size≠H2.objs.size:=by rw [hC];exact aD (bp _)
 have eD:h₁.get? s.heap.objs.size=some (l7 [] 0):=k2 _ _ (hH2 ▸ Heap.get?_push_size _ rfl);have hfo:∀ b∈fp,∃ o,s.heap.get? b=some o:=fun b hb=>let ⟨o,e,_⟩:=T.obj _ _ st b hb;⟨o,e⟩;have hle:s.heap.objs.size<=H2.objs.size:=by rw [hC];exact bK _
 have I1:=CF (tk:=s.toks) S I hf hfo hle (ai _) hDC k1 hcl hns₁ eD (fun v z=>by have z':Data.seq _ _=Data.cell v:=z;cases z');have sub:∀ x c,(cellsFrom (H2.objs.size+1) scope.names (jC X.env.cells scope.names [])).lookup x=some c->X.env.cells.lookup x=some c\/H2.objs.size+1<=c:=fun x c e=>(me (fun y hy e=>I.ok.has y.1 (S.free y hy e)) (i9 e)).imp (·.1) (·.1);have st1:tn 0 h₁:=T.keep _ _ _ st fun b _ o e=>k1 b o e;have lp:codeAny (model X.prog X.w) X.A (.compLoop (.ListComp elt [⟨tg,iter,ifs,0⟩] scope pos) 0 (.ref it) (.ref s.heap.objs.size) (compEnvC scope (cellsFrom (H2.objs.size+1) scope.names (jC X.env.cells scope.names [])) H2.objs.size X.env)) (RR (.ref s.heap.objs.size) H2.objs.size)
   { s with heap:=h₁ }:=by
  refine Bk (Y:=kq X scope s H fp pins H2.objs.size) (Z:=fun ys H=>∀ D,H D=none->Q (.ref D) (i6 H D (.lst ys))) T hc (hg _ _ _ _ _) (ht _ _ _ _ _) (he _ _ _ _ _) (fun _ _ z=>z) (fun ob H' hn b hb=>?_) (ai _) (fun x c e z=>?_) (fun p hp z=>?_) turn (fun τ H' s' ys its n J rv hz q=>?_) I1 st1 (fun b hb=>(hf b hb).1) w0
  ·obtain⟨f0,f1,f2,f3,f4,f5⟩:=hf b hb;obtain⟨o,e⟩:=hfo b hb;have lb:=Heap.lt_size e;refine⟨hn b hb,aD (ak lb hle),fun z=>?_,.inl hb,fun x c e=>(sub x c e).elim (f4 x c) fun z=>bU (ak lb (az hle (bx z))),fun p hp=>?_⟩
   ·rcases ah.mp (I.stkSub b z) with q|q
    ·exact f1 q
    ·exact f2 q
   ·rcases bd.mp hp with z|z
    ·exact f5 p z
    ·have e:p=(s.heap.objs.size,ob):=by simpa using z
     subst e;exact bU lb
  ·rcases sub x c e with w|w
   ·obtain⟨v,o,ho,_⟩:=I.cell x c w;exact absurd (Heap.lt_size ho) (by rw [z];exact aN _)
   ·rw [z,hC] at w;exact absurd (bx w) (Nat.not_succ_le_self _)
  ·exact absurd (Heap.lt_size (I.pin p hp).1) (by rw [z];exact aN _)
  ·obtain⟨_,nD,_⟩:=J.pin _ (aE _ av);have nC:H' H2.objs.size=none:=J.free;refine hRR _ _ s' ys H' (CD I hf (ai _) J av rv hz) (I.fpOk hle ?_) ?_ (q _ nD)
   ·rw [iT (Ne.symm hDC)];exact nC
   ·obtain⟨m,hm,_⟩:=J.loc;exact⟨m,hm⟩
 exact codeAny_compStart_list lp (T.self X.A 0 _ _ _ st1 lp)
section
variable{X:Cx}{elt tg iter:Expr}{ifs:List Expr}{scope:Scope}{pos:Pos}{hide:List Nat}{wi:TI}{g:TG}{te:TE}{tt:TT}
theorem qT(hc:X.calm=true)(S:CompS X.N X.env.scope scope hide)(hi:PI X tg iter wi)
  (hg:∀ s2 H2 fp pins C,PG (kq X scope s2 H2 fp pins C) tg g) (ht:∀ s2 H2 fp pins C,PTs (kq X scope s2 H2 fp pins C) ifs tt) (he:∀ s2 H2 fp pins C,PE (kq X scope s2 H2 fp pins C) elt te)
  (hs:∀ x,foldedSetIterable iter X.env x=pure x:=by intro _;rfl):PE X (.ListComp elt [⟨tg,iter,ifs,0⟩] scope pos) (xA wi hide g tt te):=by
 intro pins s σ H Q I h;rw [eval_ListComp];refine wpAny_comprehension_free (use:=none) rfl hs (mf fun y hy e=>I.ok.has y.1 (S.free y hy e)) S.kind S.loc (ja (hi pins s σ H _ I h) fun v s1 h1=>ja h1 fun itv s2 h2=>?_);obtain⟨it,fp,tn,J,H2,e,I2,T,st2,f2,q2⟩:=h2;subst e;refine vj (RR:=fun acc C=>compPost (model X.prog X.w) X.A X.xe none (EP X pins σ Q) acc C) hc S hg ht he I2 T st2 f2 q2 fun D C s' ys H' I' fC hN q=>?_;obtain⟨m,hm⟩:=hN;obtain⟨f0,f1,f2,f3,f4,f5⟩:=fC;refine⟨m,hm,fun h' sb=>⟨.ref D,_,?_,rfl,q⟩⟩;exact I'.turned (t':=s'.toks) (fun b o hb e=>(sb.2 b hb).trans e) f0 f1 f3 f4 f5
theorem vX{i:Nat}{y:Str}{py spos:Pos}(hc:X.calm=true)(hN:X.N.Nodup)(hy:X.N[i]? = some y)(hl:pC X.env.scope y)(S:CompS X.N X.env.scope scope hide)(hi:PI X tg iter wi)
  (hg:∀ s2 H2 fp pins C,PG (kq X scope s2 H2 fp pins C) tg g) (ht:∀ s2 H2 fp pins C,PTs (kq X scope s2 H2 fp pins C) ifs tt) (he:∀ s2 H2 fp pins C,PE (kq X scope s2 H2 fp pins C) elt te)
  (hs:∀ x,foldedSetIterable iter X.env x=pure x:=by intro _;rfl)
  (hsw:swapsWith (.ListComp elt [⟨tg,iter,ifs,0⟩] scope pos) (some (.Name y py)) spos.line X.env=pure true:=by rfl)
  (hf:X.fn y=true\/X.env.scope.names.lookup y=some .local:=by first|exact .inl rfl|exact .inr rfl|assumption) :
  PS X (.Assign [.Name y py] (.ListComp elt [⟨tg,iter,ifs,0⟩] scope pos) spos) (fun D σ H=>xA wi hide g tt te σ H fun v H1=>D.nx (σ.set i (some v)) H1):=by
 intro pins s σ H D I h;rw [exec_Assign_Name_used _ _ _ _ hsw];refine wpAny_bind (wpAny_standAt (wpAny_bind ?_));show wpAny _ X.A (do let _ ← comprehension (.ListComp elt [⟨tg,iter,ifs,0⟩] scope pos) scope X.env _ (newList []) false (eval iter X.env) (some (assign (.Name y py) X.env))) _ _ s;refine wpAny_bind (ja (wpAny_comprehension_free (use:=some (assign (.Name y py) X.env)) (Q:=fun _ s'=>SP X pins D .next s') rfl hs (mf fun y hy e=>I.ok.has y.1 (S.free y hy e)) S.kind S.loc
  (ja (hi pins s σ H _ I h) fun v s1 h1=>ja h1 fun itv s2 h2=>?_)) (fun _ s' hq=>wpAny_pure (wpAny_pure hq)))
 obtain⟨it,fp,tn,J,H2,e,I2,T,st2,f2,q2⟩:=h2;subst e;refine vj (Q:=fun v H1=>D.nx (σ.set i (some v)) H1) (RR:=fun acc C=>compPost (model X.prog X.w) X.A X.xe (some (assign (.Name y py) X.env)) (fun _ s'=>SP X pins D .next s') acc C) hc S hg ht he I2 T st2 f2 q2 fun A C s' ys H' I' fC hNs q=>?_;obtain⟨m,hm⟩:=hNs;obtain⟨f0,f1,f2,f3,f4,f5⟩:=fC;show wpAny _ X.A (assign (.Name y py) X.env (.ref A)) _ _ s';refine wpAny_assign_Name (mH I' hN hy hl (v:=.ref A) rfl (fun s'' I'' hch=>?_) hf);obtain⟨a,sb,ha⟩:=hch;have nC:C≠a:=by
  rcases ha with z|z
  ·rw [z];exact f1
  ·exact Ne.symm (f4 _ _ z)
 refine⟨m,hm.sameBut sb nC,fun h3 sb3=>⟨_,_,?_,q⟩⟩;exact I''.turned (t':=s''.toks) (fun b o hb e=>(sb3.2 b hb).trans e) f0 f1 f3 f4 f5
end
end L2
namespace L2
open PySem PySem.Spec PyProof.Rows
def Lt2(n:Nat)(i:Int):Prop:=i.natAbs<2^n
theorem Lt2.mono{n m:Nat}{i:Int}(h:Lt2 n i)(l:n<=m):Lt2 m i:=ak h (aG (by decide) l)
theorem Lt2.mul{n m:Nat}{i j:Int}(h:Lt2 n i)(l:Lt2 m j):Lt2 (n+m) (i*j):=by
 unfold Lt2;rw [cB,bF];exact bT h l
theorem Lt2.add{n:Nat}{i j:Int}(h:Lt2 n i)(l:Lt2 n j):Lt2 (n+1) (i+j):=by
 unfold Lt2 at *;rw [aU];omega
theorem Lt2.le{n:Nat}{i j:Int}(h:Lt2 n i)(l:j.natAbs<=i.natAbs):Lt2 n j:=aQ l h
def CMulB(i j:Int):Prop:=∃ n m,Lt2 n i/\Lt2 m j/\n+m<=100000000
theorem CMulB.ok{i j:Int}(h:CMulB i j):IntMulOk i j:=by
 obtain⟨n,m,h1,h2,h3⟩:=h;have a:=PyProof.Rows.intBits_le h1;have b:=PyProof.Rows.intBits_le h2;unfold IntMulOk;intro z;simp only [aC,decide_eq_true_eq] at z;have z2:((Builtin.Int.intBits i:Int)+(Builtin.Int.intBits j:Int)) > ((2^27:Nat):Int):=of_decide_eq_true z.2;have e:(2^27:Nat)=134217728:=by decide
 rw [e] at z2;omega
def nv(i j:Int):Prop:=j≠0/\∃ n,Lt2 n j/\n<=100000000
theorem Inv.pyl{X:Cx}{pins:List (Addr×Obj)}{σ:St}{H:Hp}{s:Shared}{k:Nat}(I:Inv X pins σ H s)(hr:Room k X.A):PySem.PylongRoom (model X.prog X.w) X.A s:=by
 obtain⟨e,l,h1,h2,h3,h4,h5⟩:=I.ok.rn;exact PySem.PylongRoom.of I.nolimit (by have:=hr.dp;show X.A.depth+100<_;omega) (PySem.SeerAt.of (I.ok.sr.1.keeps I.bk) I.ok.sr.2 (by rw [I.ok.frames,h1]) h2 h3 h4 h5)
theorem CV{X:Cx}{f:Value->Value->Sem Value}{C:Int->Int->Prop}{g:Int->Int->Int}{k:Nat}(hr:Room k X.A)
  (rule:∀(i j:Int) (t u:Tok) (s:Shared) (Q:Value->Shared->Prop) (E:Value->Shared->Prop),PySem.PylongRoom (model X.prog X.w) X.A s->C i j->Q (.int (g i j) s.toks) { s with toks:=s.toks+1 }->wpAny (model X.prog X.w) X.A (f (.int i t) (.int j u)) Q E s) :
  OpR X f (rI C fun i j=>.int (g i j)):=by
 intro pins s σ H x y v u Q I rx ry h;obtain⟨i,j,rfl,rfl,hc,q⟩:=h;obtain⟨t,rfl⟩:=rx;obtain⟨t',rfl⟩:=ry;exact rule i j t t' s _ _ (Inv.pyl I hr) hc ⟨.int (g i j),H,I.tok _,⟨_,rfl⟩,q⟩
section
variable{X:Cx}
theorem wj:OpR X (binaryOp .Mult) (rI CMulB fun i j=>.int (i*j)):=xK fun _ _ _ _ _ _ _ hc q=>mul_int q hc.ok
theorem oK{k:Nat}(hr:Room k X.A):OpR X (binaryOp .FloorDiv) (rI nv fun i j=>.int (i.fdiv j)):=CV hr fun _ _ _ _ _ _ _ hp hc q=>floordiv_int hc.1 q (.inr hp)
theorem uR:OpR X (inplaceOp .Mult) (rI CMulB fun i j=>.int (i*j)):=xK fun _ _ _ _ _ _ _ hc q=>imul_int q hc.ok
theorem sP{k:Nat}(hr:Room k X.A):OpR X (inplaceOp .FloorDiv) (rI nv fun i j=>.int (i.fdiv j)):=CV hr fun _ _ _ _ _ _ _ hp hc q=>ifloordiv_int hc.1 q (.inr hp)
end
inductive DV where
 | int (i:Int)|str (x:Str)|non|bl (b:Bool)|tup (xs:List DV)|lst (xs:List DV)
mutual
def Rep(K:Frag)(H:Hp):DV->V->Prop
 | .int i,v=>v = .int i
 | .str x,v=>v = .str x
 | .non,v=>v = .non
 | .bl b,v=>v = .bl b
 | .tup ds,v=>∃ a vs,v = .ref a/\SqT K H a vs/\Reps K H ds vs
 | .lst ds,v=>∃ a vs,v = .ref a/\SqL K H a vs/\Reps K H ds vs
def Reps(K:Frag)(H:Hp):List DV->List V->Prop
 | [],vs=>vs=[]
 | d::ds,vs=>∃ v r,vs=v::r/\Rep K H d v/\Reps K H ds r
end
mutual
def DV.pl:DV->Bool
 | .int _=>true | .str _=>true | .non=>true | .bl _=>false
 | .tup ds=>DV.pls ds
 | .lst ds=>DV.pls ds
def DV.pls:List DV->Bool
 | []=>true
 | d::ds=>DV.pl d && DV.pls ds
end
mutual
def DV.dp:DV->Nat
 | .tup ds=>DV.dps ds+1
 | .lst ds=>DV.dps ds+1
 | _=>0
def DV.dps:List DV->Nat
 | []=>0
 | d::ds=>max (DV.dp d) (DV.dps ds)
end
theorem SqT.same{K:Frag}{H H':Hp}{a:Addr}{xs:List V}(e:Same H H')(h:SqT K H a xs):SqT K H' a xs:=by
 rcases h with (h|⟨o,h⟩)|h
 ·exact .inl (.inl (e _ _ h))
 ·exact .inl (.inr ⟨o,e _ _ h⟩)
 ·exact .inr h
theorem Reps.length{K:Frag}{H:Hp}:∀{ds:List DV} {vs:List V},Reps K H ds vs->ds.length=vs.length
 | [],vs,h=>by
  have h':vs=[]:=by unfold Reps at h;exact h
  rw [h'];rfl
 | d::ds,vs,h=>by
  unfold Reps at h;obtain⟨v,r,e,_,h'⟩:=h;rw [e,aJ,aJ,Reps.length h']
mutual
theorem Rep.same{K:Frag}{H H':Hp}(e:Same H H'):∀{d:DV} {v:V},Rep K H d v->Rep K H' d v
 | .int i,v,h=>by unfold Rep at *;exact h
 | .str i,v,h=>by unfold Rep at *;exact h
 | .non,v,h=>by unfold Rep at *;exact h
 | .bl i,v,h=>by unfold Rep at *;exact h
 | .tup ds,v,h=>by
  unfold Rep at *;obtain⟨a,vs,h1,h2,h3⟩:=h;exact⟨a,vs,h1,h2.same e,Reps.same e h3⟩
 | .lst ds,v,h=>by
  unfold Rep at *;obtain⟨a,vs,h1,h2,h3⟩:=h;exact⟨a,vs,h1,e.seq h2,Reps.same e h3⟩
theorem Reps.same{K:Frag}{H H':Hp}(e:Same H H'):∀{ds:List DV} {vs:List V},Reps K H ds vs->Reps K H' ds vs
 | [],v,h=>by unfold Reps at *;exact h
 | d::ds,vs,h=>by
  unfold Reps at *;obtain⟨v,r,h1,h2,h3⟩:=h;exact⟨v,r,h1,Rep.same e h2,Reps.same e h3⟩
end
section
variable{X:Cx}{pins:List (Addr×Obj)}{σ:St}{H:Hp}{s:Shared}
mutual
theorem Rep.inj(I:Inv X pins σ H s):∀{d d':DV} {v:V},Rep X.K H d v->Rep X.K H d' v->d=d'
 | .int i,d',v,h,h'=>by
  unfold Rep at h;subst h;cases d' <;> unfold Rep at h' <;> first|(cases h';done)|(cases h';rfl)|(obtain⟨_,_,e,_⟩:=h';cases e)
 | .str i,d',v,h,h'=>by
  unfold Rep at h;subst h;cases d' <;> unfold Rep at h' <;> first|(cases h';done)|(cases h';rfl)|(obtain⟨_,_,e,_⟩:=h';cases e)
 | .non,d',v,h,h'=>by
  unfold Rep at h;subst h;cases d' <;> unfold Rep at h' <;> first|(cases h';done)|(cases h';rfl)|rfl|(obtain⟨_,_,e,_⟩:=h';cases e)
 | .bl i,d',v,h,h'=>by
  unfold Rep at h;subst h;cases d' <;> unfold Rep at h' <;> first|(cases h';done)|(cases h';rfl)|(obtain⟨_,_,e,_⟩:=h';cases e)
 | .tup ds,d',v,h,h'=>by
  unfold Rep at h;obtain⟨a,vs,rfl,h2,h3⟩:=h;cases d' with
  | tup ds' =>
   unfold Rep at h';obtain⟨a',vs',e,h2',h3'⟩:=h';cases e;have:=I.tuple_inj h2 h2';subst this;rw [Reps.inj I h3 h3']
  | lst ds' =>
   unfold Rep at h';obtain⟨a',vs',e,h2',h3'⟩:=h';cases e;obtain⟨_,_,p,_⟩:=I.tuple h2;obtain⟨_,_,p',_⟩:=I.list h2';exact absurd rfl (SeqAt.ne_of_list_tuple p'.isList p)
  | _=>unfold Rep at h';cases h'
 | .lst ds,d',v,h,h'=>by
  unfold Rep at h;obtain⟨a,vs,rfl,h2,h3⟩:=h;cases d' with
  | lst ds' =>
   unfold Rep at h';obtain⟨a',vs',e,h2',h3'⟩:=h';cases e;have:=I.list_inj h2 h2';subst this;rw [Reps.inj I h3 h3']
  | tup ds' =>
   unfold Rep at h';obtain⟨a',vs',e,h2',h3'⟩:=h';cases e;obtain⟨_,_,p,_⟩:=I.tuple h2';obtain⟨_,_,p',_⟩:=I.list h2;exact absurd rfl (SeqAt.ne_of_list_tuple p'.isList p)
  | _=>unfold Rep at h';cases h'
theorem Reps.inj(I:Inv X pins σ H s):∀{ds ds':List DV} {vs:List V},Reps X.K H ds vs->Reps X.K H ds' vs->ds=ds'
 | [],ds',vs,h,h'=>by
  unfold Reps at h;subst h;cases ds' with
  | nil=>rfl
  | cons d r=>unfold Reps at h';obtain⟨_,_,e,_⟩:=h';cases e
 | d::ds,ds',vs,h,h'=>by
  unfold Reps at h;obtain⟨v,r,e,h1,h2⟩:=h;cases ds' with
  | nil=>unfold Reps at h';rw [h'] at e;cases e
  | cons d' r' =>
   unfold Reps at h';obtain⟨v',r2,e',h1',h2'⟩:=h';rw [e] at e';cases e';rw [Rep.inj I h1 h1',Reps.inj I h2 h2']
end
end
theorem all_cons{e:Nat->Bool}{n:Nat}:(List.range (n+1)).all e=(e 0 && (List.range n).all fun j=>e (j+1)):=by
 rw [List.range_succ_eq_map,b8,cE];rfl
theorem nL{e:Nat->Bool}{n m:Nat}(h:n=m):((List.range (min n m)).all e && n == m)=(List.range n).all e:=by
 subst h;rw [Nat.min_self];simp
section
variable{X:Cx}{pins:List (Addr×Obj)}{σ:St}{H:Hp}{s:Shared}
mutual
theorem C3(I:Inv X pins σ H s):∀(d d':DV) (A:Around) {x y:V} {u v:Value},Rep X.K H d x->Rep X.K H d' y->RelV x u->RelV y v->d.pl=true->d'.pl=true->A.units+d.dp+1<cLine ->
  ∃ b,SeqAt.EqAt A s u v b/\(b=true↔d=d')
 | .bl _,_,_,_,_,_,_,_,_,_,_,p,_,_=>by unfold DV.pl at p;cases p
 | _,.bl _,_,_,_,_,_,_,_,_,_,_,p,_=>by unfold DV.pl at p;cases p
 | .int i,d',A,x,y,u,v,h,h',rx,ry,_,_,hu=>by
  have hu:A.units<cLine:=by omega
  unfold Rep at h;subst h;obtain⟨t,rfl⟩:=rx;cases d' with
  | bl b=>contradiction
  | int j =>
   unfold Rep at h';subst h';obtain⟨t',rfl⟩:=ry;exact⟨_,SeqAt.EqAt.int_int _ _ _ _,by rw [beq_iff_eq];exact⟨fun e=>by rw [e],fun e=>by cases e;rfl⟩⟩
  | str z =>
   unfold Rep at h';subst h';obtain⟨t',rfl⟩:=ry;exact⟨_,SeqAt.EqAt.int_str _ _ _ _,by simp⟩
  | non =>
   unfold Rep at h';subst h';cases ry;exact⟨_,SeqAt.EqAt.int_none _ _,by simp⟩
  | tup ds' =>
   unfold Rep at h';obtain⟨a,vs,rfl,h2,_⟩:=h';cases ry;obtain⟨_,_,p,_⟩:=I.tuple h2;exact⟨_,SeqAt.EqAt.int_tuple _ _ p hu,by simp⟩
  | lst ds' =>
   unfold Rep at h';obtain⟨a,vs,rfl,h2,_⟩:=h';cases ry;obtain⟨_,_,p,_⟩:=I.list h2;exact⟨_,SeqAt.EqAt.int_list _ _ p.isList hu,by simp⟩
 | .str i,d',A,x,y,u,v,h,h',rx,ry,_,_,hu=>by
  have hu:A.units<cLine:=by omega
  unfold Rep at h;subst h;obtain⟨t,rfl⟩:=rx;cases d' with
  | bl b=>contradiction
  | int j =>
   unfold Rep at h';subst h';obtain⟨t',rfl⟩:=ry;exact⟨_,SeqAt.EqAt.str_int _ _ _ _,by simp⟩
  | str z =>
   unfold Rep at h';subst h';obtain⟨t',rfl⟩:=ry;exact⟨_,SeqAt.EqAt.str_str _ _ _ _,by rw [beq_iff_eq];exact⟨fun e=>by rw [e],fun e=>by cases e;rfl⟩⟩
  | non =>
   unfold Rep at h';subst h';cases ry;exact⟨_,SeqAt.EqAt.str_none _ _,by simp⟩
  | tup ds' =>
   unfold Rep at h';obtain⟨a,vs,rfl,h2,_⟩:=h';cases ry;obtain⟨_,_,p,_⟩:=I.tuple h2;exact⟨_,SeqAt.EqAt.str_tuple _ _ p hu,by simp⟩
  | lst ds' =>
   unfold Rep at h';obtain⟨a,vs,rfl,h2,_⟩:=h';cases ry;obtain⟨_,_,p,_⟩:=I.list h2;exact⟨_,SeqAt.EqAt.str_list _ _ p.isList hu,by simp⟩
 | .non,d',A,x,y,u,v,h,h',rx,ry,_,_,hu=>by
  have hu:A.units<cLine:=by omega
  unfold Rep at h;subst h;cases rx;cases d' with
  | bl b=>contradiction
  | int j =>
   unfold Rep at h';subst h';obtain⟨t',rfl⟩:=ry;exact⟨_,SeqAt.EqAt.none_int _ _,by simp⟩
  | str z =>
   unfold Rep at h';subst h';obtain⟨t',rfl⟩:=ry;exact⟨_,SeqAt.EqAt.none_str _ _,by simp⟩
  | non =>
   unfold Rep at h';subst h';cases ry;exact⟨_,SeqAt.EqAt.same _,by simp⟩
  | tup ds' =>
   unfold Rep at h';obtain⟨a,vs,rfl,h2,_⟩:=h';cases ry;obtain⟨_,_,p,_⟩:=I.tuple h2;exact⟨_,SeqAt.EqAt.none_tuple p hu,by simp⟩
  | lst ds' =>
   unfold Rep at h';obtain⟨a,vs,rfl,h2,_⟩:=h';cases ry;obtain⟨_,_,p,_⟩:=I.list h2;exact⟨_,SeqAt.EqAt.none_list p.isList hu,by simp⟩
 | .tup ds,d',A,x,y,u,v,h,h',rx,ry,pp,pp',hu=>by
  have hu0:A.units<cLine:=by omega
  have hd:=h;unfold Rep at h;obtain⟨a,vs,rfl,h2,h3⟩:=h;cases rx;obtain⟨its,rv,p,_⟩:=I.tuple h2;cases d' with
  | bl b=>contradiction
  | int j =>
   unfold Rep at h';subst h';obtain⟨t',rfl⟩:=ry;exact⟨_,SeqAt.EqAt.tuple_int _ _ p hu0,by simp⟩
  | str z =>
   unfold Rep at h';subst h';obtain⟨t',rfl⟩:=ry;exact⟨_,SeqAt.EqAt.tuple_str _ _ p hu0,by simp⟩
  | non =>
   unfold Rep at h';subst h';cases ry;exact⟨_,SeqAt.EqAt.tuple_none p hu0,by simp⟩
  | lst ds' =>
   unfold Rep at h';obtain⟨a',vs',rfl,h2',_⟩:=h';cases ry;obtain⟨_,_,p',_⟩:=I.list h2';exact⟨_,SeqAt.EqAt.tuple_list p p'.isList hu0,by simp⟩
  | tup ds' =>
   have hd':=h';unfold Rep at h';obtain⟨a',vs',rfl,h2',h3'⟩:=h';cases ry;obtain⟨its',rv',p',_⟩:=I.tuple h2';by_cases e:a=a'
   ·subst e;exact⟨true,SeqAt.EqAt.same _,by simp [Rep.inj I hd hd']⟩
   ·unfold DV.pl at pp pp';unfold DV.dp at hu;obtain⟨f,hf,hi⟩:=qr I ds ds' A.in1 h3 h3' rv rv' pp pp' (by show A.units+1+_+1<_;omega);refine⟨_,SeqAt.EqAt.of_refs e (SeqAt.RcAt.tuples p p' hu0 (e:=f) fun j h1 h2=>?_),?_⟩
    ·have q:=hf j (by simpa using h1) (by simpa using h2);simpa using q
    ·simp only [af,DV.tup.injEq];exact hi
 | .lst ds,d',A,x,y,u,v,h,h',rx,ry,pp,pp',hu=>by
  have hu0:A.units<cLine:=by omega
  have hd:=h;unfold Rep at h;obtain⟨a,vs,rfl,h2,h3⟩:=h;cases rx;obtain⟨its,rv,p,_⟩:=I.list h2;cases d' with
  | bl b=>contradiction
  | int j =>
   unfold Rep at h';subst h';obtain⟨t',rfl⟩:=ry;exact⟨_,SeqAt.EqAt.list_int _ _ p.isList hu0,by simp⟩
  | str z =>
   unfold Rep at h';subst h';obtain⟨t',rfl⟩:=ry;exact⟨_,SeqAt.EqAt.list_str _ _ p.isList hu0,by simp⟩
  | non =>
   unfold Rep at h';subst h';cases ry;exact⟨_,SeqAt.EqAt.list_none p.isList hu0,by simp⟩
  | tup ds' =>
   unfold Rep at h';obtain⟨a',vs',rfl,h2',_⟩:=h';cases ry;obtain⟨_,_,p',_⟩:=I.tuple h2';exact⟨_,SeqAt.EqAt.list_tuple p.isList p' hu0,by simp⟩
  | lst ds' =>
   have hd':=h';unfold Rep at h';obtain⟨a',vs',rfl,h2',h3'⟩:=h';cases ry;obtain⟨its',rv',p',_⟩:=I.list h2';by_cases e:a=a'
   ·subst e;exact⟨true,SeqAt.EqAt.same _,by simp [Rep.inj I hd hd']⟩
   ·unfold DV.pl at pp pp';unfold DV.dp at hu;obtain⟨f,hf,hi⟩:=qr I ds ds' A.in1 h3 h3' rv rv' pp pp' (by show A.units+1+_+1<_;omega);by_cases hz:its.length=its'.length
    ·refine⟨_,SeqAt.EqAt.of_refs e (SeqAt.RcAt.lists p.isList p'.isList (by simpa using hz) hu0 (e:=f) fun j h1 h2=>?_),?_⟩
     ·have q:=hf j (by simpa using h1) (by simpa using h2);simpa using q
     ·simp only [af,DV.lst.injEq];rw [nL hz] at hi;exact hi
    ·refine⟨_,SeqAt.EqAt.of_refs e (SeqAt.RcAt.lists_lengths p.isList p'.isList (by simpa using hz) hu0),?_⟩;simp only [a9,false_iff,DV.lst.injEq];intro z;have l1:=h3.length;have l2:=h3'.length;rw [z] at l1;exact hz (by rw [← rv.length,← rv'.length,← l1,← l2])
theorem qr(I:Inv X pins σ H s):∀(ds ds':List DV) (A:Around) {xs ys:List V} {us vs:List Value},Reps X.K H ds xs->Reps X.K H ds' ys->Vals xs us->Vals ys vs->DV.pls ds=true->DV.pls ds'=true->A.units+DV.dps ds+1<cLine ->
  ∃ e:Nat->Bool,(∀ j (h1:j<us.length) (h2:j<vs.length),SeqAt.EqAt A s us[j] vs[j] (e j))/\((((List.range (min us.length vs.length)).all e && us.length == vs.length)=true)↔ds=ds')
 | [],ds',A,xs,ys,us,vs,h,h',rx,ry,_,_,_=>by
  unfold Reps at h;subst h;cases rx;refine⟨fun _=>true,fun j h1 _=>absurd h1 (by simp),?_⟩;cases ds' with
  | nil=>unfold Reps at h';subst h';cases ry;simp
  | cons d r=>unfold Reps at h';obtain⟨_,_,rfl,_⟩:=h';cases ry;simp
 | d::ds,ds',A,xs,ys,us,vs,h,h',rx,ry,pp,pp',hu=>by
  unfold Reps at h;obtain⟨x,r,rfl,h1,h2⟩:=h;cases rx with
  | cons rx rxs =>
   cases ds' with
   | nil =>
    unfold Reps at h';subst h';cases ry;exact⟨fun _=>true,fun j _ h2=>absurd h2 (by simp),by simp⟩
   | cons d' ds' =>
    unfold Reps at h';obtain⟨y,r',rfl,h1',h2'⟩:=h';cases ry with
    | cons ry rys =>
     unfold DV.pls at pp pp';rw [aC] at pp pp';unfold DV.dps at hu;obtain⟨b,hb,ib⟩:=C3 I d d' A h1 h1' rx ry pp.1 pp'.1 (by omega);obtain⟨e,he,ie⟩:=qr I ds ds' A h2 h2' rxs rys pp.2 pp'.2 (by omega);refine⟨fun j=>match j with|0=>b|j+1=>e j,fun j=>?_,?_⟩
     ·cases j with
      | zero=>exact fun _ _=>hb
      | succ j=>exact fun q1 q2=>he j (by simpa using q1) (by simpa using q2)
     ·rw [aJ,aJ,Nat.succ_min_succ];have q:∀ n,(List.range (n+1)).all (fun j=>match j with|0=>b|j+1=>e j)=(b && (List.range n).all e):=fun n=>all_cons;rw [q];have q2:∀ n m:Nat,(n+1 == m+1)=(n == m):=fun n m=>by
       rw [bf];simp
      rw [q2,Bool.and_assoc,aC,ib,ie,List.cons.injEq]
end
def AF(K:Frag)(A:Around)(neg:Bool):R2:=fun x y H Q=>∃ ds ds',Rep K H (.tup ds) x/\Rep K H (.tup ds') y/\DV.pls ds=true/\DV.pls ds'=true/\A.units+DV.dps ds+2<cLine /\
 ∀ b,(b=true↔ds=ds')->Q (.bl (if neg then !b else b)) H
theorem yT:OpR X (compareOp .Eq) (AF X.K X.A false):=by
 intro pins s σ H x y u v Q I rx ry h;obtain⟨ds,ds',h1,h2,p1,p2,hu,q⟩:=h;unfold Rep at h1 h2;obtain⟨a,vs,rfl,t1,r1⟩:=h1;obtain⟨a',vs',rfl,t2,r2⟩:=h2;cases rx;cases ry;obtain⟨its,rv,p,_⟩:=I.tuple t1;obtain⟨its',rv',p',_⟩:=I.tuple t2;obtain⟨f,hf,hi⟩:=qr I ds ds' X.A.in1 r1 r2 rv rv' p1 p2 (by show X.A.units+1+_+1<_;omega);refine SeqAt.RcAt.tuples p p' (by omega) (e:=f) (fun j h1 h2=>?_) _ _ _ _ ⟨.bl _,H,I,rfl,q _ ?_⟩
 ·have q:=hf j (by simpa using h1) (by simpa using h2);simpa using q
 ·simp only [af];exact hi
theorem yO:OpR X (compareOp .NotEq) (AF X.K X.A true):=by
 intro pins s σ H x y u v Q I rx ry h;obtain⟨ds,ds',h1,h2,p1,p2,hu,q⟩:=h;unfold Rep at h1 h2;obtain⟨a,vs,rfl,t1,r1⟩:=h1;obtain⟨a',vs',rfl,t2,r2⟩:=h2;cases rx;cases ry;obtain⟨its,rv,p,_⟩:=I.tuple t1;obtain⟨its',rv',p',_⟩:=I.tuple t2;obtain⟨f,hf,hi⟩:=qr I ds ds' X.A.in1 r1 r2 rv rv' p1 p2 (by show X.A.units+1+_+1<_;omega);refine SeqAt.RcNeAt.tuples p p' (by omega) (e:=f) (fun j h1 h2=>?_) _ _ _ _ ⟨.bl _,H,I,rfl,q _ ?_⟩
 ·have q:=hf j (by simpa using h1) (by simpa using h2);simpa using q
 ·simp only [af];exact hi
theorem r8(bs:List Bool):(List.range bs.length).all (fun j=>bs.getD j false)=bs.all id:=by
 induction bs with
 | nil=>rfl
 | cons b r ih =>
  rw [aJ,all_cons,b8];exact congrArg (b && ·) ih
theorem vf(hc:X.calm=true):CallR X (.builtin "all") (fun xs H Q=>∃ p,∃ bs:List Bool,xs=[.ref p]/\SqL X.K H p (bs.map V.bl)/\Q (.bl (bs.all id)) H):=by
 intro pins s σ H xs us Q I rv h;obtain⟨p,bs,rfl,hp,q⟩:=h;obtain⟨u,rfl,ru⟩:=rv.one;cases ru;obtain⟨its,rv',pl,_⟩:=I.list hp;refine call_all_walk (wpAny_pyIter_list pl.isList ?_);have e:∀ b o,s.heap.get? b=some o->(s.heap.push { cls:=.type "list_iterator",data:=.fields #[.ref p,.int 0 0] }).get? b=some o:=fun b o e=>Heap.get?_push_of_some _ e;have hne:p≠s.heap.objs.size:=by
  obtain⟨o,ho,_⟩:=pl.isList;exact aD (Heap.lt_size ho)
 have lb:bs.length=its.length:=by rw [← rv'.length,aj]
 refine⟨_,_,_,_,_,_,fun j=>bs.getD j false,rfl,Walks.list (A:=X.A.in1) (I.ok.hd hc) _ p hne its.toArray,⟨⟨_,Heap.get?_push_size _ rfl,rfl,rfl⟩,pl.isList.at fun o ho=>e _ o ho⟩,?_,fun h' tk hk=>?_⟩
 ·intro i v s Q E hv hq;have hv':its[i]? = some v:=by simpa using hv
  have hi:i<bs.length:=by
   rw [lb];exact (aq.mp hv').1
  obtain⟨u,hu,ru⟩:=rv'.get (i:=i) (x:=.bl bs[i]) (by simp [hi]);rw [hv'] at hu;cases hu;cases ru;have:bs.getD i false=bs[i]:=by simp [List.getD,hi]
  have hq:Q (bs.getD i false) s:=hq;rw [this] at hq;exact wpAny_truthy_bool hq
 ·refine⟨.bl (bs.all id),H,I.kept (t':=tk) fun b o ho=>hk b o ?_ (e b o ho),?_,q⟩
  ·simp only [ao];exact aD (Heap.lt_size ho)
  ·show Value.bool _=_;rw [← r8,lb];simp
end
end L2
namespace L2
open PySem PySem.Spec PyProof.Rows
structure Def (P:Program)(w:World)(K:Frag)(mg:Str->Option Value)(base:Heap)(x:Str)(k:Nat)(ps:List Str)(sp:Sp):Prop where
 ex:∃ f fd,FnOk P w K mg base om k f fd ps sp/\mg x=some (.ref f)/\PySem.W.keepIn K (.ref f)=true/\Binds K fd ps []
theorem Def.of{P:Program}{w:World}{K:Frag}{mg:Str->Option Value}{base:Heap}{x q:Str}{k:Nat}{ps:List Str}{sp:Sp}{st:Stmt}{f:Addr}{fd:FuncData}(F:Fun K x q st f fd)(m:mg x=some (.ref f))(b:Binds K fd ps [])
  (ok:FnOk P w K mg base om k f fd ps sp):Def P w K mg base x k ps sp:=⟨f,fd,ok,m,F.kp,b⟩
theorem lX{X:Cx}{e:Expr}{es:List Expr}{t:TA}{x:Str}{p pos:Pos}{j k:Nat}{ps:List Str}{sp:Sp}(g:Def X.prog X.w X.K X.mg X.base x j ps sp)(hr:Room k X.A)(ha:PA X (e::es) t)(hjk:j<=k:=by first|decide|omega|exact ai _)(hg:Gl X x:=by rfl)
  (hdb:(x == ("__debug__" : Str))=false:=by decide) (he:starEach (e::es) X.env=(false,eval e X.env)::starEach es X.env:=by rfl) (hpl:(backTo pos (starEach es X.env)).any (·.1)=false:=by rfl) :
  PE X (.Call (.Name x p) (e::es) [] pos) (kK sp [] E0 t):=by
 obtain⟨f,fd,F,m,kp,b⟩:=g.ex;exact qU F (hr.mono hjk) hg m kp b .nil ui ha hdb he hpl
structure Bl (mg:Str->Option Value):Prop where
 len:mg "len" = none
 range:mg "range" = none
 all:mg "all" = none
 any:mg "any" = none
 abs:mg "abs" = none
 int:mg "int" = none
 bool:mg "bool" = none
 str:mg "str" = none
 list:mg "list" = none
 tuple:mg "tuple" = none
 dict:mg "dict" = none
 isinstance:mg "isinstance" = none
 enumerate:mg "enumerate" = none
 reversed:mg "reversed" = none
 sorted:mg "sorted" = none
 max:mg "max" = none
 min:mg "min" = none
 sum:mg "sum" = none
 zip:mg "zip" = none
structure Sm (f:Addr)(H H':Hp):Prop where
 app:∀ b o,b≠f->H b=some o->H' b=some o
 key:∀ l r,H f=some (.lst (.ref l::r))->∃ r',H' f=some (.lst (.ref l::r'))
instance {f:Addr}{H H':Hp}:CoeFun (Sm f H H') (fun _=>∀ b o,b≠f->H b=some o->H' b=some o):=⟨Sm.app⟩
theorem Sm.refl{f:Addr}(H:Hp):Sm f H H:=⟨fun _ _ _ h=>h,fun l r h=>⟨r,h⟩⟩
theorem Sm.trans{f:Addr}{H H1 H2:Hp}(a:Sm f H H1)(b:Sm f H1 H2):Sm f H H2:=⟨fun c o n h=>b.app c o n (a.app c o n h),fun l r h=>by
 obtain⟨r1,h1⟩:=a.key l r h;exact b.key l r1 h1⟩
theorem Same.sm{f:Addr}{H H':Hp}(h:Same H H'):Sm f H H':=⟨fun b o _ e=>h b o e,fun l r e=>⟨r,h _ _ e⟩⟩
theorem Sm.new{f p:Addr}{H:Hp}(h:H p=none)(o:HO):Sm f H (i6 H p o):=⟨fun b u _ q=>by rw [iT (iZ q h)];exact q,fun l r q=>⟨r,by rw [iT (iZ q h)];exact q⟩⟩
theorem Same.new{p:Addr}{H:Hp}(h:H p=none)(o:HO):Same H (i6 H p o):=fun b u q=>by rw [iT (iZ q h)];exact q
theorem Sm.free{f:Addr}{H H':Hp}(e:Sm f H H'){l:Addr}(hl:l≠f)(h:H' l=none):H l=none:=by
 cases q:H l with
 | none=>rfl
 | some o =>
  rw [e.app l o hl q] at h;cases h
def Da(Pv:Nat->St->List V->Hp->Prop)(n i:Nat)(τ:St)(ys:List V)(v:V)(H:Hp):Prop :=
 ∃ m',m'<n-i/\m'=n-(i+1)/\i+1<=n/\(ys++[v]).length=i+1/\Pv (i+1) τ (ys++[v]) H
theorem Dr{Pv:Nat->St->List V->Hp->Prop}{n i:Nat}{τ:St}{ys:List V}{v:V}{H:Hp}(hi:i<n)(hl:ys.length=i)(p:Pv (i+1) τ (ys++[v]) H):Da Pv n i τ ys v H :=
 ⟨n-(i+1),by omega,rfl,hi,by rw [aB,bY,hl],p⟩
theorem qw{lo:Int}{n:Nat}{g:TG}{te:TE}{Q:VK}{σ:St}{H:Hp}(hn:n<=sizeLine)(Pv:Nat->St->List V->Hp->Prop)(h0:Pv 0 σ [] H)
  (hs:∀ i τ ys H,i<n->ys.length=i->Pv i τ ys H->g (.int (lo+i)) τ H fun τ2 H2=>te τ2 H2 fun v H3=>Da Pv n i τ2 ys v H3)
  (hd:∀ τ ys H D,ys.length=n->Pv n τ ys H->H D=none->Q (.ref D) (i6 H D (.lst ys))) :
  vz (zV lo n) g Ac te σ Q H:=by
 refine⟨fun i m τ ys H=>m=n-i/\i<=n/\ys.length=i/\Pv i τ ys H,⟨n,by simp,aS _,rfl,h0⟩,?_⟩;rintro i m τ ys H ⟨rfl,hi,hl,p⟩;by_cases hlt:i<n
 ·refine .inr ⟨hlt,by omega,fun x H' y=>?_⟩;obtain⟨e,y⟩:=y;subst e y;exact hs i τ ys _ hlt hl p
 ·have e:i=n:=by omega
  subst e;exact .inl ⟨ai _,fun D hD=>hd τ ys H D hl p hD⟩
end L2
namespace L2
open PySem
theorem ln:bootBuiltins "len" = some (.builtin "len"):=by decide +kernel
theorem zA:bootBuiltins "abs" = some (.builtin "abs"):=by decide +kernel
theorem vo:bootBuiltins "all" = some (.builtin "all"):=by decide +kernel
theorem i5:bootBuiltins "isinstance" = some (.builtin "isinstance"):=by decide +kernel
theorem vn:bootBuiltins "int" = some (.type "int"):=by decide +kernel
theorem oi:bootBuiltins "bool" = some (.type "bool"):=by decide +kernel
theorem zy:bootBuiltins "str" = some (.type "str"):=by decide +kernel
theorem jW:bootBuiltins "list" = some (.type "list"):=by decide +kernel
theorem ka:bootBuiltins "tuple" = some (.type "tuple"):=by decide +kernel
end L2
namespace L2
open PySem PySem.Spec PyProof.Rows
def BY(t u:TS):TS:=fun D σ H=>∃ R:St->Hp->Prop,t { D with nx:=R } σ H/\∀ σ H,R σ H->u D σ H
theorem kN{X:Cx}{st:Stmt}{more:List Stmt}{t u:TS}(h1:PS X st t)(h2:PSs X more u):PSs X (st::more) (BY t u):=by
 intro pins s σ H D I h;obtain⟨R,a,b⟩:=h;refine wpAny_execs_cons (ja (h1 pins s σ H { D with nx:=R } I a) fun f s1 q=>?_);cases f with
 | next =>
  obtain⟨σ1,H1,I1,r1⟩:=q;exact h2 pins s1 σ1 H1 D I1 (b σ1 H1 r1)
 | brk=>exact q
 | cont=>exact q
 | ret v=>exact q
end L2
namespace L2
open PySem PySem.Spec PyProof.Rows
section
variable{X:Cx}
theorem pD(K:Frag)(hK:X.K=K:=by rfl):IxR X (yA K):=hK ▸ ix_list
theorem sJ(K:Frag)(hK:X.K=K:=by rfl):CallR X (.builtin "len") (fun xs H Q=>∃ p ys,xs=[.ref p]/\(SqL K H p ys\/SqT K H p ys)/\Q (.int ys.length) H):=hK ▸ og
theorem Bo(K:Frag)(hc:X.calm=true:=by rfl)(hK:X.K=K:=by rfl):CallR X (.builtin "all") (fun xs H Q=>∃ p,∃ bs:List Bool,xs=[.ref p]/\SqL K H p (bs.map V.bl)/\Q (.bl (bs.all id)) H):=hK ▸ vf hc
theorem uI(K:Frag)(hK:X.K=K:=by rfl):CallR X (.type "list") (fun xs H Q=>∃ p ys,xs=[.ref p]/\(SqL K H p ys\/SqT K H p ys)/\∀ l,H l=none->Q (.ref l) (i6 H l (.lst ys))):=hK ▸ oa
theorem vF(K:Frag)(hK:X.K=K:=by rfl):CallR X (.type "tuple") (fun xs H Q=>∃ p ys,xs=[.ref p]/\((SqL K H p ys/\∀ l,H l=none->Q (.ref l) (i6 H l (.tup ys)))\/(SqT K H p ys/\Q (.ref p) H))):=hK ▸ mC
theorem Do(K:Frag){a:Expr}{ta:TE}(ha:PE X a ta)(he:∀ whole,isTrue a X.env whole=(do let v ← whole;standAt a.pos;holding [v] (truthy v)))(hK:X.K=K:=by rfl) :
  PT X a (fun σ H Q=>ta σ H fun x H'=>∃ k,zK K x H' k/\Q k H'):=hK ▸ oI ha he
def AG(K:Frag)(neg:Bool):R2:=fun x y H Q=>∃ ds ds',Rep K H (.tup ds) x/\Rep K H (.tup ds') y/\DV.pls ds=true/\DV.pls ds'=true/\DV.dps ds<=60/\∀ b,(b=true↔ds=ds')->Q (.bl (if neg then !b else b)) H
theorem DB(K:Frag){k:Nat}(hr:Room k X.A)(hK:X.K=K:=by rfl):OpR X (compareOp .Eq) (AG K false):=by
 subst hK;intro pins s σ H x y u v Q I rx ry h;obtain⟨ds,ds',h1,h2,p1,p2,hu,q⟩:=h;exact yT pins s σ H x y u v Q I rx ry ⟨ds,ds',h1,h2,p1,p2,by have:=hr.units;omega,q⟩
theorem Dt(K:Frag){k:Nat}(hr:Room k X.A)(hK:X.K=K:=by rfl):OpR X (compareOp .NotEq) (AG K true):=by
 subst hK;intro pins s σ H x y u v Q I rx ry h;obtain⟨ds,ds',h1,h2,p1,p2,hu,q⟩:=h;exact yO pins s σ H x y u v Q I rx ry ⟨ds,ds',h1,h2,p1,p2,by have:=hr.units;omega,q⟩
end
end L2
namespace Fr
open L2
def cp(t b:Int):Int:=((Int.gcd t b:Nat):Int)
def part(t b:Int):Int:=if b<0 then -cp t b else cp t b
def top(t b:Int):Int:=t.fdiv (part t b)
def xV(t b:Int):Int:=b.fdiv (part t b)
theorem uY(a b:Int):Int.gcd b (a.fmod b)=Int.gcd a b:=by
 rw [cH,Int.gcd_sub_mul_left_right,Int.gcd_comm]
theorem wV(a b:Int)(h:b≠0):(a.fmod b).natAbs<b.natAbs:=by
 rcases cX h with hb|hb
 ·have h1:=cY (-a) (b:=-b) (by omega);have h2:=cG (-a) (b:=-b) (by omega);have e:(-a).fmod (-b) = -(a.fmod b):=by
   rw [cH,cH,Int.neg_fdiv_neg,Int.neg_mul];omega
  omega
 ·have h1:=cY a hb;have h2:=cG a hb;omega
theorem zw{t b:Int}(h:b≠0):0<cp t b:=by
 unfold cp;have:0<Int.gcd t b:=cT (by rw [Ne,cS];exact fun z=>h z.2);omega
theorem Bf{t b:Int}(h:b≠0):(cp t b).natAbs<=b.natAbs:=by
 unfold cp;rw [cW];exact Nat.le_of_dvd (by omega) (Nat.gcd_dvd_right _ _)
theorem wa{t b:Int}(h:b≠0):part t b≠0:=by
 have:=zw (t:=t) h;unfold part;split <;> omega
theorem wb{t b:Int}(h:b≠0):(part t b).natAbs<=b.natAbs:=by
 have:=Bf (t:=t) h;unfold part;split
 ·rw [Int.natAbs_neg];exact this
 ·exact this
theorem of{p t' b':Int}(hp:p≠0)(hb:0<b')(hc:Int.gcd t' b'=1):top (p*t') (p*b')=t'/\xV (p*t') (p*b')=b':=by
 have e:part (p*t') (p*b')=p:=by
  unfold part cp;rw [Int.gcd_mul_left,hc,Nat.mul_one];rcases cX hp with h|h
  ·rw [if_pos (Int.mul_neg_of_neg_of_pos h hb)];omega
  ·rw [if_neg (Int.not_lt.mpr (Int.le_of_lt (Int.mul_pos h hb)))];omega
 unfold top xV;rw [e];exact⟨cD _ hp,cD _ hp⟩
theorem ex{t b:Int}(h:b≠0):∃ p t' b',p≠0/\0<b'/\Int.gcd t' b'=1/\t=p*t'/\b=p*b':=by
 have g0:0<Int.gcd t b:=cT (by rw [Ne,cS];exact fun z=>h z.2);obtain⟨t1,e1⟩:=Int.gcd_dvd_left t b;obtain⟨b1,e2⟩:=Int.gcd_dvd_right t b;have hc:Int.gcd t1 b1=1:=by
  have q:Int.gcd ((Int.gcd t b:Int)*t1) ((Int.gcd t b:Int)*b1)=Int.gcd t b:=by rw [← e1,← e2]
  rw [Int.gcd_mul_left,cW] at q;exact Nat.eq_of_mul_eq_mul_left g0 (by omega)
 have g1:(0:Int)<(Int.gcd t b:Int):=by omega
 by_cases hb:b<0
 ·refine⟨-(Int.gcd t b:Int),-t1,-b1,by omega,?_,by rw [Int.gcd_neg,Int.neg_gcd];exact hc,by rw [Int.neg_mul_neg];exact e1,by rw [Int.neg_mul_neg];exact e2⟩;rcases c7 b1 0 with z|z|z
  ·omega
  ·rw [z,Int.mul_zero] at e2;omega
  ·have:=Int.mul_pos g1 z;omega
 ·refine⟨(Int.gcd t b:Int),t1,b1,by omega,?_,hc,e1,e2⟩;rcases c7 b1 0 with z|z|z
  ·have:=Int.mul_neg_of_pos_of_neg g1 z;omega
  ·rw [z,Int.mul_zero] at e2;omega
  ·exact z
theorem low{t b:Int}(h:b≠0):0<xV t b/\top t b*b=t*xV t b/\Int.gcd (top t b) (xV t b)=1:=by
 obtain⟨p,t',b',hp,hb,hc,rfl,rfl⟩:=ex (t:=t) h;have e:=of hp hb hc;rw [e.1,e.2];refine⟨hb,?_,hc⟩;rw [Int.mul_left_comm,Int.mul_assoc]
theorem ye{t b:Int}(h:b≠0):(top t b).natAbs<=t.natAbs/\(xV t b).natAbs<=b.natAbs:=by
 obtain⟨p,t',b',hp,hb,hc,rfl,rfl⟩:=ex (t:=t) h;have e:=of hp hb hc;rw [e.1,e.2,cB,cB];have:0<p.natAbs:=by omega
 exact⟨bV _ this,bV _ this⟩
end Fr
namespace L2
open PySem PySem.Spec PyProof.Rows
def zJ(K:Frag)(H:Hp)(x:V)(t:Value):Prop:=TyOf K H x t\/(∃ a xs,x = .ref a/\SqT K H a xs/\t = .type "tuple")\/(∃ a xs,x = .ref a/\SqL K H a xs/\t = .type "list")
section
variable{X:Cx}{pins:List (Addr×Obj)}{σ:St}{H:Hp}{s:Shared}{A:Around}{E:Value->Shared->Prop}{Q:Value->Shared->Prop}
theorem zh{x:V}{u t c:Value}{b:Bool}(I:Inv X pins σ H s)(rx:RelV x u)(ty:zJ X.K H x t)(e:PySem.W.kitOne X.K t c=some b)(h:∀ tk,Q (.bool b) { s with toks:=tk }) :
  wpAny (model X.prog X.w) A (call (.builtin "isinstance") [u,c]) Q E s:=by
 rcases ty with ty|⟨a,xs,rfl,hq,rfl⟩|⟨a,xs,rfl,hq,rfl⟩
 ·exact sO I rx ty e h
 ·cases rx;obtain⟨its,rv,p,_⟩:=I.tuple hq;obtain⟨o,ho,hc,_⟩:=p;exact PySem.W.kia_one PySem.W.kitx_tuple I.kIn ⟨o,ho,hc⟩ e (fun z=>nomatch z) h
 ·cases rx;obtain⟨its,rv,p,_⟩:=I.list hq;obtain⟨o,ho,hc,_⟩:=p.isList;exact PySem.W.kia_one PySem.W.kitx_list I.kIn ⟨o,ho,hc⟩ e (fun z=>nomatch z) h
theorem wN{x:V}{u t:Value}{b:Bool}{tp:Addr}{dd:Option Addr}{its:List Value}{n:Nat}{sl:Array (Option Value)}(I:Inv X pins σ H s)(rx:RelV x u)(ty:zJ X.K H x t)(hs:∀ C,t ≠ .ref C)
  (htp:s.heap.get? tp=some ⟨.type "tuple",dd,.seq its.toArray n,sl⟩) (e:PySem.W.kitAny X.K t its=some b) (h:∀ tk,Q (.bool b) { s with toks:=tk }) :
  wpAny (model X.prog X.w) A (call (.builtin "isinstance") [u,.ref tp]) Q E s:=by
 rcases ty with ty|⟨a,xs,rfl,hq,rfl⟩|⟨a,xs,rfl,hq,rfl⟩
 ·cases ty with
  | non=>cases (show u=Value.none from rx);exact PySem.W.kia_tup PySem.W.kitx_none I.kIn True.intro htp e (fun z=>nomatch z) h
  | bl y=>cases (show u=Value.bool y from rx);exact PySem.W.kia_tup PySem.W.kitx_bool I.kIn True.intro htp e (fun z=>nomatch z) h
  | int i=>obtain⟨t,q⟩:=(show ∃ t,u=Value.int i t from rx);cases q;exact PySem.W.kia_tup PySem.W.kitx_int I.kIn True.intro htp e (fun z=>nomatch z) h
  | str y=>obtain⟨t,q⟩:=(show ∃ t,u=Value.str y t from rx);cases q;exact PySem.W.kia_tup PySem.W.kitx_str I.kIn True.intro htp e (fun z=>nomatch z) h
  | flt y=>obtain⟨t,q⟩:=(show ∃ t,u=Value.float y t from rx);cases q;exact PySem.W.kia_tup PySem.W.kitx_float I.kIn True.intro htp e (fun z=>nomatch z) h
  | @lst a xs ea =>
   cases (show u=Value.ref a from rx);obtain⟨_,_,n,_,h1⟩:=(show ObjOk X.prog X.w H s.heap a (.lst xs) from I.hok a _ ea);exact PySem.W.kia_tup PySem.W.kitx_list I.kIn ⟨_,h1,rfl⟩ htp e (fun z=>nomatch z) h
  | @frz a ob xs ea =>
   cases (show u=Value.ref a from rx);obtain⟨q1,_,_,n,_,h1⟩:=(show ObjOk X.prog X.w H s.heap a (.frz ob (.lst xs)) from I.hok a _ ea);exact PySem.W.kia_tup PySem.W.kitx_list I.kIn ⟨_,h1,rfl⟩ htp e (fun z=>nomatch z) h
  | @tup a xs ea =>
   cases (show u=Value.ref a from rx);obtain⟨its',rv,p,_⟩:=I.tuple (SqT.of ea);obtain⟨o,ho,hc,_⟩:=p;exact PySem.W.kia_tup PySem.W.kitx_tuple I.kIn ⟨o,ho,hc⟩ htp e (fun z=>nomatch z) h
  | @dK a kvs ea =>
   cases (show u=Value.ref a from rx);obtain⟨_,_,vs,_,p⟩:=(show ObjOk X.prog X.w H s.heap a (.dK kvs) from I.hok a _ ea);obtain⟨o,es,ep,h1,h2,_⟩:=p;exact PySem.W.kia_tup PySem.W.kitx_dict I.kIn ⟨o,h1,h2.1⟩ htp e (fun z=>nomatch z) h
  | @dT a kvs ea =>
   cases (show u=Value.ref a from rx);obtain⟨_,_,xs,_,o,es,ep,h1,h2,_⟩:=(show ObjOk X.prog X.w H s.heap a (.dT kvs) from I.hok a _ ea);exact PySem.W.kia_tup PySem.W.kitx_dict I.kIn ⟨o,h1,h2.1⟩ htp e (fun z=>nomatch z) h
  | ins=>exact absurd rfl (hs _)
 ·cases rx;obtain⟨its',rv,p,_⟩:=I.tuple hq;obtain⟨o,ho,hc,_⟩:=p;exact PySem.W.kia_tup PySem.W.kitx_tuple I.kIn ⟨o,ho,hc⟩ htp e (fun z=>nomatch z) h
 ·cases rx;obtain⟨its',rv,p,_⟩:=I.list hq;obtain⟨o,ho,hc,_⟩:=p.isList;exact PySem.W.kia_tup PySem.W.kitx_list I.kIn ⟨o,ho,hc⟩ htp e (fun z=>nomatch z) h
end
section
variable{X:Cx}
theorem zi(K:Frag)(hK:X.K=K:=by rfl):CallR X (.builtin "isinstance") (fun xs H Q=>∃ x n t b,xs=[x,.ty n]/\zJ K H x t/\PySem.W.kitOne K t (.type n)=some b/\Q (.bl b) H):=by
 subst hK;intro pins s σ H xs us Q I rv h;obtain⟨x,n,t,b,rfl,ty,e,q⟩:=h;obtain⟨u,v,rfl,r1,r2⟩:=rv.two;cases r2;exact zh I r1 ty e fun tk=>⟨.bl b,H,I.tok tk,rfl,q⟩
theorem qJ:∀{ns:List String} {us:List Value},Vals (ns.map V.ty) us->us=ns.map Value.type
 | [],_,.nil=>rfl
 | n::ns,_,.cons r t=>by
  have r':_=Value.type n:=r;rw [r',qJ t];rfl
theorem Cp(K:Frag)(hK:X.K=K:=by rfl):CallR X (.builtin "isinstance") (fun xs H Q=>∃ x tp t b,∃ ns:List String,xs=[x,.ref tp]/\zJ K H x t/\(∀ C,t ≠ .ref C)/\H tp=some (.tup (ns.map V.ty))/\PySem.W.kitAny K t (ns.map Value.type)=some b/\Q (.bl b) H):=by
 subst hK;intro pins s σ H xs us Q I rv h;obtain⟨x,tp,t,b,ns,rfl,ty,hs,htp,e,q⟩:=h;obtain⟨u,v,rfl,r1,r2⟩:=rv.two;cases r2;obtain⟨its,rv',p,_⟩:=I.tuple (SqT.of htp);obtain⟨⟨cl,dd,dt,sl⟩,ho,hc,n,hd⟩:=p;have hc':cl = .type "tuple" := hc;have hd':dt = .seq its.toArray n:=hd;subst hc' hd';refine wN I r1 ty hs ho ?_ fun tk=>⟨.bl b,H,I.tok tk,rfl,q⟩;rw [qJ rv'];exact e
theorem CZ(K:Frag)(hK:X.K=K:=by rfl):IxR X (BC K):=hK ▸ ix_seq
end
end L2
namespace L2
open PySem PySem.Spec PyProof.Rows
mutual
def DV.wd:DV->Nat
 | .tup ds=>max ds.length (DV.wds ds)
 | .lst ds=>max ds.length (DV.wds ds)
 | _=>0
def DV.wds:List DV->Nat
 | []=>0
 | d::ds=>max (DV.wd d) (DV.wds ds)
end
theorem qI:∀{ds:List DV} {d:DV},d∈ds->d.wd<=DV.wds ds/\d.dp<=DV.dps ds
 | [],_,h=>absurd h au
 | e::ds,d,h=>by
  unfold DV.wds DV.dps;rcases ah.mp h with rfl|h
  ·exact⟨aW _ _,aW _ _⟩
  ·have:=qI h;omega
theorem Reps.get{K:Frag}{H:Hp}:∀{ds:List DV} {vs:List V} {i:Nat} {v:V},Reps K H ds vs->vs[i]? = some v->∃ d,ds[i]? = some d/\Rep K H d v
 | [],vs,i,v,h,e=>by
  unfold Reps at h;subst h;simp at e
 | d::ds,vs,i,v,h,e=>by
  unfold Reps at h;obtain⟨v',r,rfl,h1,h2⟩:=h;cases i with
  | zero =>
   simp at e;subst e;exact⟨d,rfl,h1⟩
  | succ i =>
   simp at e;obtain⟨d',a,b⟩:=Reps.get h2 e;exact⟨d',by simpa using a,b⟩
def SqX(K:Frag)(tt:String)(H:Hp)(a:Addr)(xs:List V):Prop:=(tt = "tuple" /\ SqT K H a xs)\/(tt = "list" /\ SqL K H a xs)
theorem SqX.same{K:Frag}{tt:String}{H H':Hp}{a:Addr}{xs:List V}(h:SqX K tt H a xs)(e:Same H H'):SqX K tt H' a xs:=h.imp (fun z=>⟨z.1,z.2.same e⟩) fun z=>⟨z.1,e.seq z.2⟩
theorem SqX.len{K:Frag}{tt:String}{H:Hp}{a:Addr}{xs:List V}(h:SqX K tt H a xs):SqL K H a xs\/SqT K H a xs:=h.elim (fun z=>.inr z.2) fun z=>.inl z.2
theorem SqX.ty{K:Frag}{tt:String}{H:Hp}{a:Addr}{xs:List V}(h:SqX K tt H a xs):zJ K H (.ref a) (.type tt):=h.elim (fun z=>.inr (.inl ⟨a,xs,rfl,z.2,by rw [z.1]⟩)) fun z=>.inr (.inr ⟨a,xs,rfl,z.2,by rw [z.1]⟩)
theorem SqX.ix{K:Frag}{tt:String}{H:Hp}{a:Addr}{xs:List V}{i:Int}{v:V}{Q:VK}(h:SqX K tt H a xs)(e:tq xs i=some v)(q:Q v H):BC K (.ref a) (.int i) H Q :=
 h.elim (fun z=>.inr (.inl ⟨a,xs,i,v,rfl,rfl,z.2,e,q⟩)) fun z=>.inl ⟨a,xs,i,v,rfl,rfl,z.2,e,q⟩
theorem SqX.kit{K:Frag}{tt:String}{H:Hp}{a:Addr}{xs:List V}(h:SqX K tt H a xs):PySem.W.kitAny K (.type tt) [.type "list",.type "tuple"]=some true/\(∃ b,PySem.W.kitOne K (.type tt) (.type "list")=some b)/\∃ b,PySem.W.kitOne K (.type tt) (.type "tuple")=some b:=by
 rcases h with⟨rfl,_⟩|⟨rfl,_⟩
 ·exact⟨rfl,⟨_,rfl⟩,⟨_,rfl⟩⟩
 ·exact⟨rfl,⟨_,rfl⟩,⟨_,rfl⟩⟩
def CL(K:Frag)(x:V):Prop:=∃ t bb,(∀ H,zJ K H x t)/\(∀ C,t ≠ .ref C)/\PySem.W.kitAny K t [.type "list",.type "tuple"]=some false/\PySem.W.kitOne K t (.type "bool")=some bb/\yn x x=true
theorem r0{K:Frag}{H:Hp}{d:DV}{x y:V}(hx:Rep K H d x)(hy:Rep K H d y):(x=y/\CL K x) \/
  ∃ tt a a' xs ys ds,x = .ref a/\y = .ref a'/\SqX K tt H a xs/\SqX K tt H a' ys/\Reps K H ds xs/\Reps K H ds ys/\d.dp=DV.dps ds+1/\DV.wds ds<=d.wd/\ds.length<=d.wd:=by
 cases d with
 | int i=>unfold Rep at hx hy;subst hx hy;exact .inl ⟨rfl,.type "int",false,fun H=>.inl (.int _),nofun,rfl,rfl,rfl⟩
 | str i=>unfold Rep at hx hy;subst hx hy;exact .inl ⟨rfl,.type "str",false,fun H=>.inl (.str _),nofun,rfl,rfl,rfl⟩
 | non=>unfold Rep at hx hy;subst hx hy;exact .inl ⟨rfl,.type "NoneType",false,fun H=>.inl .non,nofun,rfl,rfl,rfl⟩
 | bl i=>unfold Rep at hx hy;subst hx hy;exact .inl ⟨rfl,.type "bool",true,fun H=>.inl (.bl _),nofun,rfl,rfl,rfl⟩
 | tup ds =>
  unfold Rep at hx hy;obtain⟨a,xs,rfl,h1,h2⟩:=hx;obtain⟨a',ys,rfl,h1',h2'⟩:=hy;exact .inr ⟨"tuple",a,a',xs,ys,ds,rfl,rfl,.inl ⟨rfl,h1⟩,.inl ⟨rfl,h1'⟩,h2,h2',by rw [DV.dp],by rw [DV.wd];omega,by rw [DV.wd];omega⟩
 | lst ds =>
  unfold Rep at hx hy;obtain⟨a,xs,rfl,h1,h2⟩:=hx;obtain⟨a',ys,rfl,h1',h2'⟩:=hy;exact .inr ⟨"list",a,a',xs,ys,ds,rfl,rfl,.inr ⟨rfl,h1⟩,.inr ⟨rfl,h1'⟩,h2,h2',by rw [DV.dp],by rw [DV.wd];omega,by rw [DV.wd];omega⟩
end L2
namespace L2
open PySem PySem.Spec PyProof.Rows
section
variable{X:Cx}
def AI(K:Frag):R2:=fun x y H Q=>∃ a b ys,x = .ref a/\y = .ref b/\SqT K H a []/\SqT K H b ys/\Q (.ref b) H
theorem Bj(K:Frag)(hK:X.K=K:=by rfl):OpR X (binaryOp .Add) (AI K):=by
 subst hK;intro pins s σ H x y u v Q I rx ry h;obtain⟨a,b,ys,rfl,rfl,h1,h2,q⟩:=h;cases rx;cases ry;obtain⟨its,rv,p,_⟩:=I.tuple h1;obtain⟨its2,rv2,p2,_⟩:=I.tuple h2;cases rv;obtain⟨⟨cls,dd,data,sl⟩,ho,hc,n,hd⟩:=id p;obtain⟨⟨cls2,dd2,data2,sl2⟩,ho2,hc2,n2,hd2⟩:=id p2;simp only at hc hd hc2 hd2;subst hc hd hc2 hd2;exact concat_meets ⟨_,ho,rfl⟩ ⟨_,ho2,rfl⟩ noFill_tuple_add seq_tuple_add PySem.F.slot_tuple_add PySem.F.entry_tuple_add (PySem.F.args_tuple_add_2 _ _)
  (tuple_addW0 a b ([]:List Value).toArray its2.toArray n n2 dd dd2 sl sl2 (by simp)) ⟨ho,ho2,⟨.ref b,H,I,rfl,q⟩⟩
def xF(K:Frag)(neg:Bool):R2:=fun x y H Q=>∃ ds ds',Rep K H (.lst ds) x/\Rep K H (.lst ds') y/\DV.pls ds=true/\DV.pls ds'=true/\DV.dps ds<=60/\∀ b,(b=true↔ds=ds')->Q (.bl (if neg then !b else b)) H
theorem Cy(K:Frag){k:Nat}(hr:Room k X.A)(hK:X.K=K:=by rfl):OpR X (compareOp .Eq) (xF K false):=by
 subst hK;intro pins s σ H x y u v Q I rx ry h;obtain⟨ds,ds',h1,h2,p1,p2,hu,q⟩:=h;have hun:=hr.units;unfold Rep at h1 h2;obtain⟨a,vs,rfl,t1,r1⟩:=h1;obtain⟨a',vs',rfl,t2,r2⟩:=h2;cases rx;cases ry;obtain⟨its,rv,p,_⟩:=I.list t1;obtain⟨its',rv',p',_⟩:=I.list t2;obtain⟨f,hf,hi⟩:=qr I ds ds' X.A.in1 r1 r2 rv rv' p1 p2 (by show X.A.units+1+_+1<_;omega);by_cases hz:its.length=its'.length
 ·refine SeqAt.RcAt.lists p.isList p'.isList (by simpa using hz) (by omega) (e:=f) (fun j h1 h2=>?_) _ _ _ _ ⟨.bl _,H,I,rfl,q _ ?_⟩
  ·have q:=hf j (by simpa using h1) (by simpa using h2);simpa using q
  ·simp only [af];rw [nL hz] at hi;exact hi
 ·refine SeqAt.RcAt.lists_lengths p.isList p'.isList (by simpa using hz) (by omega) _ _ _ _ ⟨.bl false,H,I,rfl,q false ?_⟩;simp only [a9,false_iff];intro z;have l1:=r1.length;have l2:=r2.length;rw [z] at l1;exact hz (by rw [← rv.length,← rv'.length,← l1,← l2])
theorem Cf(K:Frag){k:Nat}(hr:Room k X.A)(hK:X.K=K:=by rfl):OpR X (compareOp .NotEq) (xF K true):=by
 subst hK;intro pins s σ H x y u v Q I rx ry h;obtain⟨ds,ds',h1,h2,p1,p2,hu,q⟩:=h;have hun:=hr.units;unfold Rep at h1 h2;obtain⟨a,vs,rfl,t1,r1⟩:=h1;obtain⟨a',vs',rfl,t2,r2⟩:=h2;cases rx;cases ry;obtain⟨its,rv,p,_⟩:=I.list t1;obtain⟨its',rv',p',_⟩:=I.list t2;obtain⟨f,hf,hi⟩:=qr I ds ds' X.A.in1 r1 r2 rv rv' p1 p2 (by show X.A.units+1+_+1<_;omega);by_cases hz:its.length=its'.length
 ·refine SeqAt.RcNeAt.lists p.isList p'.isList (by simpa using hz) (by omega) (e:=f) (fun j h1 h2=>?_) _ _ _ _ ⟨.bl _,H,I,rfl,q _ ?_⟩
  ·have q:=hf j (by simpa using h1) (by simpa using h2);simpa using q
  ·simp only [af];rw [nL hz] at hi;exact hi
 ·refine SeqAt.RcNeAt.lists_lengths p.isList p'.isList (by simpa using hz) (by omega) _ _ _ _ ⟨.bl true,H,I,rfl,q false ?_⟩;simp only [a9,false_iff];intro z;have l1:=r1.length;have l2:=r2.length;rw [z] at l1;exact hz (by rw [← rv.length,← rv'.length,← l1,← l2])
end
end L2
namespace L2
open PySem PySem.Spec PyProof.Rows
section
variable{X:Cx}
theorem mE:∀{ns:List Int} {us:List Value},Vals (ns.map V.int) us->∃ xs:List (Int×Tok),us=xs.map (fun p=>Value.int p.1 p.2)/\xs.map (·.1)=ns
 | [],_,.nil=>⟨[],rfl,rfl⟩
 | n::ns,_,.cons r t=>by
  obtain⟨tk,e⟩:∃ t,_=Value.int n t:=r;obtain⟨xs,e1,e2⟩:=mE t;exact⟨(n,tk)::xs,by rw [e,e1];rfl,by rw [← e2];rfl⟩
theorem Ch(K:Frag)(hc:X.calm=true:=by rfl)(hK:X.K=K:=by rfl):CallR X (.builtin "max") (fun xs H Q=>∃ p,∃ ns:List Int,xs=[.ref p]/\SqL K H p (ns.map V.int)/\ns≠[]/\∀ M,M∈ns->(∀ a∈ns,a<=M)->Q (.int M) H):=by
 subst hK;intro pins s σ H xs us Q I rv h;obtain⟨p,ns,rfl,hp,hn,q⟩:=h;obtain⟨u,rfl,ru⟩:=rv.one;cases ru;obtain⟨its,rv',pl,_⟩:=I.list hp;obtain⟨ys,e1,e2⟩:=mE rv';subst e1;have hl:s.heap.IsList p (intItems ys.toArray):=by
  have:intItems ys.toArray=(ys.map (fun p=>Value.int p.1 p.2)).toArray:=by simp [intItems]
  rw [this];exact pl.isList
 have hsz:0<ys.toArray.size:=by
  rcases ys with _|⟨y,ys⟩
  ·exact absurd e2.symm hn
  ·simp
 refine max_intList (I.ok.hd hc) hl hsz fun v h' tk hv hk=>?_;obtain⟨t,rfl⟩:=intItems_at hv;obtain⟨h1,h2⟩:=argBest_gt (numAt ys.toArray) (ys.toArray.size-1);refine⟨.int _,H,I.kept (t':=tk) hk,⟨t,rfl⟩,q _ ?_ fun a ha=>?_⟩
 ·rw [numAt_eq,← e2];exact PySem.getD_mem (by simp only [af,aj] at *;omega)
 ·rw [← e2] at ha;obtain⟨j,hj,rfl⟩:=PySem.mem_getD ha;rw [aj] at hj;have:=h2 j (by rw [af];omega);rw [numAt_eq] at this;exact this
end
def Pol(H:Hp)(v:V)(P:List Int)(B:Int):Prop:=∃ a t,v = .ref a/\H a=some (.tup [.ref t,.int B])/\H t=some (.tup (P.map V.int))
theorem zz:bootBuiltins "max" = some (.builtin "max"):=by decide +kernel
end L2
namespace L2
open PySem PySem.Spec PyProof.Rows
section
variable{X:Cx}{pins:List (Addr×Obj)}{σ:St}{H:Hp}{s:Shared}{h':Heap}
theorem Inv.turnedL{t':Nat}{fp:List Addr}(I:Inv X pins σ H s)(k:∀ b o,b ∉ fp->s.heap.get? b=some o->h'.get? b=some o)(hf:∀ b∈fp,ke X pins H b):Inv X pins σ H { s with heap:=h',toks:=t' }:=by
 have nit:∀ b u,H b=some u->b ∉ fp:=fun b u e z=>by rw [(hf b z).1] at e;cases e
 have hL:X.env.locals ∉ fp:=fun z=>(hf _ z).2.1 rfl;refine I.step (g':=s.gens) (d':=s.drawn) (ch:=fp) (fun b hb=>⟨(hf b hb).2.2.2.1,(hf b hb).2.1,(hf b hb).2.2.2.2.1,(hf b hb).2.2.2.2.2⟩) (fun b o _ _ hc e _=>k b o hc e) (fun b o _ _ hc e _=>⟨o.slots,k b o hc e⟩) (fun _ _ _ _ n=>n)
  (fun b o hc e=>⟨o,k b o hc e⟩) (fun _ _ e=>e) (fun _ _ _ e=>e) (fun b ps e=>⟨#[],by rw [e];simp⟩) (fun m ⟨o,es,ep,ho,r⟩=>⟨o,es,ep,k _ o hL ho,r⟩) (fun b u e=>?_) I.bare
 refine (I.hok b u e).stay (fun c v hc q=>k c v (hc.elim (fun z=>by rw [z];exact nit b u e) fun z=>nit c _ z) q) (fun _ q=>q) fun _ _ q=>q
end
section
variable{prog:Program}{w:World}{A:Around}{E:Value->Shared->Prop}{s:Shared}
theorem p9{it t:Addr}{i:Nat}{items:Array Value}{x:Value}{Q:Value->Shared->Prop}(hit:s.heap.IsTupleIter it t i)(ht:s.heap.IsTuple t items)(hx:items[i]? = some x)
  (hQ:∀ h',h'.IsTupleIter it t (i+1)->Heap.SameBut it s.heap h'->Q x { s with heap:=h' }):wpAny (model prog w) A (Builtin.SmallTypes.nextOf (.ref it)) Q E s:=by
 obtain⟨o,ho,hc,hd⟩:=id hit;obtain⟨ol,hol,_,nl,hdl⟩:=ht;unfold Builtin.SmallTypes.nextOf;refine wpAny_bind (wpAny_callSpecial?_slot (name:=Str.ofString "__next__") hit.typeIs F.slot_tuple_iterator_next (wpAny_call_entry F.slot_tuple_iterator_next hit.typeIs F.entry_tuple_iterator_next ?_ (F.args_tuple_iterator_next_1 _)));show wpAny _ _ (field (.ref it) 0 >>= _) _ _ s;refine wpAny_bind (wpAny_field ho hd (x:=.ref t) rfl ?_);show wpAny _ _ (if (Value.ref t == Value.none)=true then _ else _) _ _ s;rw [if_neg (show ¬ ((Value.ref t == Value.none)=true) from am)];show wpAny _ _ (field (.ref it) 1 >>= _) _ _ s;refine wpAny_bind (wpAny_field ho hd (x:=.int i 0) rfl ?_);show wpAny _ _ (seqItems? (.ref t) >>= _) _ _ s;refine wpAny_bind (wpAny_seqItems hol hdl ?_);simp only [aI,hx];refine wpAny_bind (wpAny_setField ho hd (by simp) (wpAny_pure ⟨x,rfl,wpAny_pure (hQ _ ⟨_,Heap.get?_update_self _ ho (Obj.isFreed_of_fields (Obj.data_mapFields hd _)),(Obj.cls_mapFields ..).trans hc,by rw [Obj.data_mapFields hd];simp [rawInt]⟩ (Heap.SameBut.update ..))⟩))
theorem mQ{it t:Addr}{i:Nat}{items:Array Value}{Q:Value->Shared->Prop}(hh:A.handled=none)(hit:s.heap.IsTupleIter it t i)(ht:s.heap.IsTuple t items)(hx:items[i]? = none)
  (hE:∀ h' e,Heap.ExtBut it s.heap h'->(∃ o,h'.get? e=some o/\o.cls = .type "StopIteration")->E (.ref e) { s with heap:=h' }):wpAny (model prog w) A (Builtin.SmallTypes.nextOf (.ref it)) Q E s:=by
 obtain⟨o,ho,hc,hd⟩:=id hit;obtain⟨ol,hol,_,nl,hdl⟩:=ht;unfold Builtin.SmallTypes.nextOf;refine wpAny_bind (wpAny_callSpecial?_slot (name:=Str.ofString "__next__") hit.typeIs F.slot_tuple_iterator_next (wpAny_call_entry F.slot_tuple_iterator_next hit.typeIs F.entry_tuple_iterator_next ?_ (F.args_tuple_iterator_next_1 _)));show wpAny _ _ (field (.ref it) 0 >>= _) _ _ s;refine wpAny_bind (wpAny_field ho hd (x:=.ref t) rfl ?_);show wpAny _ _ (if (Value.ref t == Value.none)=true then _ else _) _ _ s;rw [if_neg (show ¬ ((Value.ref t == Value.none)=true) from am)];show wpAny _ _ (field (.ref it) 1 >>= _) _ _ s;refine wpAny_bind (wpAny_field ho hd (x:=.int i 0) rfl ?_);show wpAny _ _ (seqItems? (.ref t) >>= _) _ _ s;refine wpAny_bind (wpAny_seqItems hol hdl ?_);simp only [aI,hx];refine wpAny_bind (wpAny_rule (wpAny_bind (wpAny_setField ho hd (by simp) ?_)));show wpAny _ _ (newExc (.type "StopIteration") [] >>= _) _ _ _;refine wpAny_bind ?_;simp only [newExc,newTuple];refine wpAny_bind (wpAny_newObj_type ?_ (by size_fits));refine wpAny_bind (m:=firstArgMember _ _) (wpAny_of_eq (a:=Value.none) (by first|rfl|(simp only [firstArgMember];rfl)) ?_);refine wpAny_newObj_type ?_ (by size_fits);simp only [raiseNew];refine wpAny_bind (wpAny_handled ?_);first|rw [show A.in1.handled=none from hh]|rw [hh]
 refine wpAny_bind (wpAny_pure (wpAny_throw ?_));exact hE _ _ (((Heap.SameBut.update ..).extBut.push _).push _) ⟨_,Heap.get?_push_size _ rfl,rfl⟩
end
theorem zr{prog:Program}{w:World}{A:Around}(hh:A.handled=none)(it l:Addr)(hne:l≠it)(items:Array Value):Draws prog w A it [it,l] items.size (fun i v=>items[i]? = some v) (fun i h=>h.IsTupleIter it l i/\h.IsTuple l items) where
 live:=fun _ _ st=>let ⟨o,ho,_⟩:=st.1;⟨o,ho⟩
 frame:=fun _ _ _ st hk=>⟨let ⟨o,ho,r⟩:=st.1;⟨o,hk it (by simp) o ho,r⟩,let ⟨o,ho,r⟩:=st.2;⟨o,hk l (by simp) o ho,r⟩⟩
 item:=fun i s Q E hi st hQ=>p9 st.1 st.2 (x:=items[i]) (by simp [hi]) fun h' hit' hs'=>hQ _ h' s.toks (by simp [hi]) ⟨hit',let ⟨o,ho,r⟩:=st.2;⟨o,(hs'.2 l hne).trans ho,r⟩⟩ hs'
 done:=fun s Q E st hE=>mQ hh st.1 st.2 (by simp) hE
theorem sV(l:Addr)(items:Array Value)(n:Nat)(dct:Option Addr)(sl:Array (Option Value)) :
  Meets (Builtin.«enumerate.__new__» ⟨[.type "enumerate",.ref l],[]⟩) (fun _ R s=>s.heap.get? l=some { cls:=.type "tuple",dict:=dct,data:=.seq items n,slots:=sl } /\
   R (.ok (.ret (.ref (s.heap.push { cls:=.type "tuple_iterator",data:=.fields #[.ref l,.int 0 0] }).objs.size)))
    { s with heap:=(s.heap.push { cls:=.type "tuple_iterator",data:=.fields #[.ref l,.int 0 0] }).push { cls:=.type "enumerate",data:=.fields #[.none,.bool false,.ref s.heap.objs.size,rawInt 0,.none,.none] } }) :=
 .of_wp fun prog w A R s h=>by
  obtain⟨hp,g,d,tk,os⟩:=s;obtain⟨hl,h⟩:=h;have hsub:=sub_enumerate;have hL:Heap.IsTuple (Shared.heap ⟨hp,g,d,tk,os⟩) l items:=⟨_,hl,rfl,n,rfl⟩
  wp_walk using AutoSeq1.wpAny_loadPart' hl
  refine wpAny_stack_any fun st=>wpAny_pure ?_;split
  ·rename_i c _ _ _ _ _;cases (c == Value.type "enumerate") <;> (wp_walk using AutoSeq1.wpAny_loadPart' hl,wpAny_pyIter_tuple hL;exact⟨_,rfl,h⟩)
  ·wp_walk using AutoSeq1.wpAny_loadPart' hl,wpAny_pyIter_tuple hL;exact⟨_,rfl,h⟩
def BJ(Sq:Hp->List V->Prop):It:=⟨fun i H=>∃ xs x,Sq H xs/\xs[i]? = some x,fun i H x H'=>∃ p v,x = .ref p/\H p=none/\H'=i6 H p (.tup [.int i,v])/\∀ xs,Sq H xs->xs[i]? = some v,fun i H=>∃ xs,Sq H xs/\xs.length<=i⟩
theorem ng{X:Cx}{pins:List (Addr×Obj)}{σ:St}{H:Hp}{s:Shared}{h1 h2:Heap}{e it:Addr}{tk t2:Nat}{i:Nat}{x:V}{u:Value}(I:Inv X pins σ H s)(hf:∀ b∈[e,it],ke X pins H b)(le:e<s.heap.objs.size)(li:it<s.heap.objs.size)(ru:RelV x u)
  (hT:h1.get? s.heap.objs.size=some { cls:=.type "tuple",data:=.seq #[.int i tk,u] }) (hk:∀ b o,b≠e->b≠it->s.heap.get? b=some o->h1.get? b=some o) (hs:Heap.SameBut e h1 h2) :
  Inv X pins σ (i6 H s.heap.objs.size (.tup [.int i,x])) { s with heap:=h2,toks:=t2 }/\∀ b∈[e,it],i6 H s.heap.objs.size (.tup [.int i,x]) b=none:=by
 have lt:∀ b∈[e,it],b≠s.heap.objs.size:=fun b hb=>by
  rcases ah.mp hb with z|z
  ·rw [z];exact aD le
  ·rw [ao.mp z];exact aD li
 have I1:Inv X pins σ (i6 H s.heap.objs.size (.tup [.int i,x])) { s with heap:=s.heap.push { cls:=.type "tuple",data:=.seq #[.int i tk,u] },toks:=t2 } :=
  I.laid (t':=t2) (fun b u e=>Heap.get?_push_of_some _ e) (ai _) ⟨by show 2<=sizeLine;decide,[.int i tk,u],.cons ⟨tk,rfl⟩ (.cons ru .nil),⟨_,Heap.get?_push_size _ rfl,rfl,_,rfl⟩⟩
 have nn:∀ b∈[e,it],i6 H s.heap.objs.size (.tup [.int i,x]) b=none:=fun b hb=>by
  rw [iT (lt b hb)];exact (hf b hb).1
 refine⟨Inv.turnedL (s:={ s with heap:=s.heap.push { cls:=.type "tuple",data:=.seq #[.int i tk,u] },toks:=t2 }) (t':=t2) (fp:=[e,it]) I1 (fun b o hb q=>?_) fun b hb=>⟨nn b hb,(hf b hb).2⟩,nn⟩;have be:b≠e:=fun z=>hb (by simp [z]);have bi:b≠it:=fun z=>hb (by simp [z]);refine (hs.2 b be).trans ?_;rcases Heap.get?_push_cases q with⟨z1,z2⟩|z
 ·rw [z1,z2];exact hT
 ·exact hk b o be bi z
theorem sW{prog:Program}{w:World}{A:Around}{E:Value->Shared->Prop}{s:Shared}{e it l:Addr}{i:Nat}{items:Array Value}{old:Value}{Q:Option Value->Shared->Prop}(hh:A.handled=none)(he:IsEnum s.heap e it i old)(hit:s.heap.IsTupleIter it l i)(hl:s.heap.IsTuple l items)
  (hx:items[i]? = none) (hQ:∀ h',Heap.ExtBut it s.heap h'->Q none { s with heap:=h' }):wpAny (model prog w) A (pyNext (.ref e)) Q E s:=by
 have hT:s.TypeIs (.ref e) "enumerate" := ⟨_,he,rfl⟩;unfold pyNext;refine wpAny_bind (wpAny_attempt (wpAny_callSpecial?_slot (name:=Str.ofString "__next__") hT F.slot_enumerate_next (wpAny_call_entry F.slot_enumerate_next hT F.entry_enumerate_next ?_ (F.args_enumerate_next_1 _))));show wpAny _ _ (field (.ref e) 2 >>= _) _ _ _;refine wpAny_bind (wpAny_field he rfl (x:=.ref it) rfl ?_);refine wpAny_bind (mQ (A:=A.in1) hh hit hl hx fun h' x he' hx'=>?_);obtain⟨o,ho,hc⟩:=hx';exact wpAny_bind (wpAny_isInstance (T := "StopIteration") (b:=true) ⟨o,ho,hc⟩ isSubtype_stop (wpAny_pure (hQ _ he')))
theorem qt{prog:Program}{w:World}{A:Around}{E:Value->Shared->Prop}{s:Shared}{l:Addr}{items:Array Value}{Q:Value->Shared->Prop}(hL:s.heap.IsTuple l items)
  (h:∀ h',IsEnum h' (s.heap.objs.size+1) s.heap.objs.size 0 .none->h'.IsTupleIter s.heap.objs.size l 0->h'.objs.size=s.heap.objs.size+2->(∀ b o,s.heap.get? b=some o->h'.get? b=some o)->Q (.ref (s.heap.objs.size+1)) { s with heap:=h' }) :
  wpAny (model prog w) A (call (.type "enumerate") [.ref l]) Q E s:=by
 obtain⟨⟨c,dct,dt,sl⟩,hl,hc,n,hd⟩:=hL;have hc':c = .type "tuple" := hc;have hd':dt = .seq items n:=hd;subst hc' hd';refine callType_new F.called_enumerate (by decide) (F.typeCall_enumerate_1 _) (F.newCall_enumerate_1 _) (fun obj=>F.args_object_init_2 obj _) F.entry_enumerate_new (sV l items n dct sl) ⟨hl,?_⟩;have hz:(s.heap.push { cls:=.type "tuple_iterator",data:=.fields #[.ref l,.int 0 0] }).objs.size=s.heap.objs.size+1:=Heap.size_push ..;show _/\_;rw [hz];have he:IsEnum ((s.heap.push { cls:=.type "tuple_iterator",data:=.fields #[.ref l,.int 0 0] }).push { cls:=.type "enumerate",data:=.fields #[.none,.bool false,.ref s.heap.objs.size,rawInt 0,.none,.none] }) (s.heap.objs.size+1) s.heap.objs.size 0 .none:=by
  have:=Heap.get?_push_size (s.heap.push { cls:=.type "tuple_iterator",data:=.fields #[.ref l,.int 0 0] }) (o:={ cls:=.type "enumerate",data:=.fields #[.none,.bool false,.ref s.heap.objs.size,rawInt 0,.none,.none] }) rfl;rw [hz] at this;exact this
 exact⟨⟨_,he,rfl⟩,h _ he ⟨_,Heap.get?_push_of_some _ (Heap.get?_push_size _ rfl),rfl,rfl⟩ (by rw [Heap.size_push,hz]) fun b o x=>Heap.get?_push_of_some _ (Heap.get?_push_of_some _ x)⟩
theorem pL{P:Program}{w:World}{K:Frag}{es:List Expr}{kk:Nat}{ps:Pos}(a e it:Addr)(hei:e≠it):Turn P w K (.Tuple es kk ps) (BJ fun H xs=>SqL K H a xs) [e,it] e (fun i h=>(∃ old,IsEnum h e it i old)/\h.IsListIter it a i) where
 mem:=by simp
 obj:=fun i h st b hb=>by
  obtain⟨⟨old,he⟩,o,ho,hc,hd⟩:=st;rcases ah.mp hb with z|z
  ·rw [z];exact⟨_,he,fun v q=>by cases q⟩
  ·rw [ao.mp z];exact⟨o,ho,fun v q=>by rw [hd] at q;cases q⟩
 keep:=fun i h h' st k=>by
  obtain⟨⟨old,he⟩,o,ho,r⟩:=st;exact⟨⟨old,k e (by simp) _ he⟩,o,k it (by simp) o ho,r⟩
 item:=by
  intro X hP hw hK hc i pins s σ H E I hf st hg;subst hP hw hK;obtain⟨xs,x,hq,hx⟩:=hg;obtain⟨its,rv,p,hz⟩:=I.list hq;obtain⟨u,hu,ru⟩:=rv.get hx;obtain⟨⟨old,he⟩,hit⟩:=st;have hl:s.heap.IsList a its.toArray:=p.isList;have hne:a≠it:=fun z=>by
   obtain⟨o,ho,c,_⟩:=id hl;obtain⟨o',ho',c',_⟩:=id hit;rw [z,ho'] at ho;cases ho;rw [c'] at c;revert c;decide
  have hae:e≠a:=fun z=>by
   obtain⟨o,ho,c,_⟩:=id hl;rw [← z,he] at ho;cases ho;have c':Value.type "enumerate" = Value.type _:=c;revert c';decide
  have le:e<s.heap.objs.size:=Heap.lt_size he;have li:it<s.heap.objs.size:=by obtain⟨o,ho,_⟩:=id hit;exact Heap.lt_size ho
  refine wpAny_pyNext_enum_itemD (Draws.list (A:=X.A.in1) (I.ok.hd hc) it a hne its.toArray) he ⟨hit,hl⟩ (by have:=(aq.mp hu).1;simpa using this) hei (by simp [hei,hae]) fun y h1 tk hP ho hst hT hsz hk=>?_;have hy:its[i]? = some y:=by simpa using hP
  rw [hu] at hy;cases hy;refine⟨_,rfl,wpAny_letOwnedTupleGo_enum ho fun h2 he2 hs2=>?_⟩;obtain⟨I2,n2⟩:=ng (t2:=tk+1) I hf le li ru hT hk hs2;refine⟨.ref s.heap.objs.size,_,I2,rfl,⟨_,x,rfl,I.hok.fresh (ai _),rfl,fun ys hy=>by rw [I.list_inj hy hq];exact hx⟩,⟨⟨_,by simpa using he2⟩,?_⟩,n2⟩;obtain⟨o,ho1,r⟩:=hst.1;exact⟨o,(hs2.2 it hei.symm).trans ho1,r⟩
 done:=by
  intro X hP hw hK hc i pins s σ H E I hf st hg;subst hP hw hK;obtain⟨xs,hq,hx⟩:=hg;obtain⟨its,rv,p,hz⟩:=I.list hq;obtain⟨⟨old,he⟩,hit⟩:=st;have hl:s.heap.IsList a its.toArray:=p.isList;have hne:a≠it:=fun z=>by
   obtain⟨o,ho,c,_⟩:=id hl;obtain⟨o',ho',c',_⟩:=id hit;rw [z,ho'] at ho;cases ho;rw [c'] at c;revert c;decide
  obtain⟨f0,f1,f2,f3,f4,f5⟩:=hf it (by simp);have le:=rv.length;refine wpAny_pyNext_enum_end (I.ok.hd hc) he hit hl (by simp;omega) fun h' eb=>⟨rfl,I.turned (t':=s.toks) (fun b o hb e=>eb b o hb e) f0 f1 f3 f4 f5⟩
 self:=fun _ _ _ _ _ st h=>by
  obtain⟨⟨old,he⟩,_⟩:=st;exact wpAny_pyIter_enum he h
theorem pK{P:Program}{w:World}{K:Frag}{es:List Expr}{kk:Nat}{ps:Pos}(a e it:Addr)(hei:e≠it):Turn P w K (.Tuple es kk ps) (BJ fun H xs=>SqT K H a xs) [e,it] e (fun i h=>(∃ old,IsEnum h e it i old)/\h.IsTupleIter it a i) where
 mem:=by simp
 obj:=fun i h st b hb=>by
  obtain⟨⟨old,he⟩,o,ho,hc,hd⟩:=st;rcases ah.mp hb with z|z
  ·rw [z];exact⟨_,he,fun v q=>by cases q⟩
  ·rw [ao.mp z];exact⟨o,ho,fun v q=>by rw [hd] at q;cases q⟩
 keep:=fun i h h' st k=>by
  obtain⟨⟨old,he⟩,o,ho,r⟩:=st;exact⟨⟨old,k e (by simp) _ he⟩,o,k it (by simp) o ho,r⟩
 item:=by
  intro X hP hw hK hc i pins s σ H E I hf st hg;subst hP hw hK;obtain⟨xs,x,hq,hx⟩:=hg;obtain⟨its,rv,p,hz⟩:=I.tuple hq;obtain⟨u,hu,ru⟩:=rv.get hx;obtain⟨⟨old,he⟩,hit⟩:=st;have hl:s.heap.IsTuple a its.toArray:=p;have hne:a≠it:=fun z=>by
   obtain⟨o,ho,c,_⟩:=id hl;obtain⟨o',ho',c',_⟩:=id hit;rw [z,ho'] at ho;cases ho;rw [c'] at c;revert c;decide
  have hae:e≠a:=fun z=>by
   obtain⟨o,ho,c,_⟩:=id hl;rw [← z,he] at ho;cases ho;have c':Value.type "enumerate" = Value.type _:=c;revert c';decide
  have le:e<s.heap.objs.size:=Heap.lt_size he;have li:it<s.heap.objs.size:=by obtain⟨o,ho,_⟩:=id hit;exact Heap.lt_size ho
  refine wpAny_pyNext_enum_itemD (zr (A:=X.A.in1) (I.ok.hd hc) it a hne its.toArray) he ⟨hit,hl⟩ (by have:=(aq.mp hu).1;simpa using this) hei (by simp [hei,hae]) fun y h1 tk hP ho hst hT hsz hk=>?_;have hy:its[i]? = some y:=by simpa using hP
  rw [hu] at hy;cases hy;refine⟨_,rfl,wpAny_letOwnedTupleGo_enum ho fun h2 he2 hs2=>?_⟩;obtain⟨I2,n2⟩:=ng (t2:=tk+1) I hf le li ru hT hk hs2;refine⟨.ref s.heap.objs.size,_,I2,rfl,⟨_,x,rfl,I.hok.fresh (ai _),rfl,fun ys hy=>by rw [I.tuple_inj hy hq];exact hx⟩,⟨⟨_,by simpa using he2⟩,?_⟩,n2⟩;obtain⟨o,ho1,r⟩:=hst.1;exact⟨o,(hs2.2 it hei.symm).trans ho1,r⟩
 done:=by
  intro X hP hw hK hc i pins s σ H E I hf st hg;subst hP hw hK;obtain⟨xs,hq,hx⟩:=hg;obtain⟨its,rv,p,hz⟩:=I.tuple hq;obtain⟨⟨old,he⟩,hit⟩:=st;have hl:s.heap.IsTuple a its.toArray:=p;have hne:a≠it:=fun z=>by
   obtain⟨o,ho,c,_⟩:=id hl;obtain⟨o',ho',c',_⟩:=id hit;rw [z,ho'] at ho;cases ho;rw [c'] at c;revert c;decide
  obtain⟨f0,f1,f2,f3,f4,f5⟩:=hf it (by simp);have le:=rv.length;refine sW (I.ok.hd hc) he hit hl (by simp;omega) fun h' eb=>⟨rfl,I.turned (t':=s.toks) (fun b o hb e=>eb b o hb e) f0 f1 f3 f4 f5⟩
 self:=fun _ _ _ _ _ st h=>by
  obtain⟨⟨old,he⟩,_⟩:=st;exact wpAny_pyIter_enum he h
def A2(K:Frag)(ta:TA):TI:=fun σ H R=>ta σ H fun vs H1=>∃ a,vs=[.ref a]/\(((∃ xs,SqL K H1 a xs)/\R (BJ fun H xs=>SqL K H a xs) H1)\/((∃ xs,SqT K H1 a xs)/\R (BJ fun H xs=>SqT K H a xs) H1))
theorem ml:bootBuiltins "enumerate" = some (.type "enumerate"):=by decide +kernel
theorem v3{X:Cx}(K:Frag){es:List Expr}{kk:Nat}{ps:Pos}{a:Expr}{ta:TA}{p pos:Pos}(hg:Gl X "enumerate")(hm:X.mg "enumerate" = none)(ha:PA X [a] ta)(hK:X.K=K:=by rfl)(hs:starEach [a] X.env=[(false,eval a X.env)]:=by rfl):PI X (.Tuple es kk ps) (.Call (.Name "enumerate" p) [a] [] pos) (A2 K ta):=by
 subst hK;intro pins s σ H R I h;refine Call_ (j7 I hg hm ml (PyProof.Rows.callWith_type1 (ja (ha pos pins s σ H _ I h) fun us s1 ⟨vs,H1,I1,r1,q1⟩=>?_) hs rfl));obtain⟨l,e,q1⟩:=q1;subst e;obtain⟨u,rfl,ru⟩:=Vals.one r1;cases ru;have fp1:∀{h':Heap},∀ b∈[s1.heap.objs.size+1,s1.heap.objs.size],ke X pins H1 b:=fun b hb=>by
  have hb':s1.heap.objs.size<=b:=by
   rcases ah.mp hb with z|z
   ·omega
   ·rw [ao.mp z];exact ai _
  exact I1.fpOk hb' (I1.hok.fresh hb')
 rcases q1 with⟨⟨xs,hq⟩,q⟩|⟨⟨xs,hq⟩,q⟩
 ·obtain⟨its,rv,pl,hz⟩:=I1.list hq;refine call_enumerate_list pl.isList fun h' he hit hsz hk=>?_;refine wpAny_pyIter_enum he ?_;exact⟨_,[s1.heap.objs.size+1,s1.heap.objs.size],_,_,H1,rfl,I1.kept (t':=s1.toks) hk,pL l _ _ (Nat.succ_ne_self _),⟨⟨_,he⟩,hit⟩,fp1 (h':=h'),q⟩
 ·obtain⟨its,rv,pl,hz⟩:=I1.tuple hq;refine qt pl fun h' he hit hsz hk=>?_;refine wpAny_pyIter_enum he ?_;exact⟨_,[s1.heap.objs.size+1,s1.heap.objs.size],_,_,H1,rfl,I1.kept (t':=s1.toks) hk,pK l _ _ (Nat.succ_ne_self _),⟨⟨_,he⟩,hit⟩,fp1 (h':=h'),q⟩
theorem Cu{X:Cx}(K:Frag)(hK:X.K=K:=by rfl):Bs X (fun o i H Q=>∃ p xs v,∃ j:Nat,o = .ref p/\i = .int j/\SqL K H p xs/\xs[j]? = some v/\Q v H):=by
 subst hK;intro pins s σ H o i ov iv Q I ro ri h;obtain⟨p,xs,v,j,rfl,rfl,hq,hv,q⟩:=h;cases ro;obtain⟨t,rfl⟩:=ri;obtain⟨its,r,pl,hz⟩:=I.list hq;obtain⟨w,ew,rw'⟩:=r.get hv;have hl:=(aq.mp hv).1;have hn:=jL;exact wpAny_getItem_list pl.isList (by omega) (by omega) (by rw [aI];simpa using ew) ⟨v,H,I,rw',q⟩
end L2
namespace HT
open PySem PyProof.Rows
variable{prog:Program}{w:World}{A:Around}{E:Value->Shared->Prop}{s:Shared}
theorem ko{t sl:Addr}{items:Array Value}{vl vu:Value}{lo hi:Option Int}{Q:Value->Shared->Prop}(ht:IsTup s.heap t items)(hs:s.heap.IsSliceOf sl vl vu .none)(pl:IsPart vl lo)(pu:IsPart vu hi)
  (hw:jo items.size 0 lo=0/\jo items.size items.size hi=items.size) (h:Q (.ref t) s):wpAny (model prog w) A (getItem (.ref t) (.ref sl)) Q E s:=by
 obtain⟨os,hos,hcs,hds⟩:=id hs;have hTs:s.TypeIs (.ref sl) "slice" := ⟨os,hos,hcs⟩;unfold getItem;try with_reducible refine wpAny_holding ?_
 first|refine wpAny_bind (wpAny_pure ?_)|skip
 refine wpAny_bind (wpAny_sequenceKey ht.typeIs (by decide) ?_);refine wpAny_bind (wpAny_callSpecial?_slot (name:=Str.ofString "__getitem__") ht.typeIs PyProof.Rows.slot_tuple_getitem (wpAny_call_entry PyProof.Rows.slot_tuple_getitem ht.typeIs entry_tuple_getitem ?_ (args_tuple_getitem _ _)));show wpAny _ _ (Builtin.Tuple.tupleItemsOf (.ref t) >>= _) _ _ s;refine wpAny_bind (tupleItemsOf_ ht ?_);refine wpAny_bind (wpAny_typeOf hTs ?_);rw [if_pos (by decide)];refine wpAny_bind (jN hs pl pu ?_);have hyes:(((jo items.size 0 lo:Nat):Int) == 0 && (1:Int) == 1 && (jo items.size items.size hi-jo items.size 0 lo) == items.size)=true:=by
  rw [hw.1,hw.2];simp
 show wpAny _ _ (if (((jo items.size 0 lo:Nat):Int) == 0 && (1:Int) == 1 && (jo items.size items.size hi-jo items.size 0 lo) == items.size)=true then _ else _) _ _ s;rw [if_pos hyes];refine wpAny_bind (m:=Builtin.Tuple.tupleIsExact _) ?_;unfold Builtin.Tuple.tupleIsExact;refine wpAny_bind (wpAny_typeOf ht.typeIs (wpAny_pure ?_));rw [if_pos (by decide)];first
  | exact wpAny_bind (wpAny_rule (wpAny_bind (wpAny_pure (wpAny_pure ⟨_,rfl,wpAny_pure h⟩))))
  | exact wpAny_bind (wpAny_rule (wpAny_pure ⟨_,rfl,wpAny_pure h⟩))
  | exact wpAny_bind (wpAny_rule (wpAny_bind (wpAny_pure ⟨_,rfl,wpAny_pure h⟩)))
end HT
namespace RV
open PySem PyProof.Rows
theorem oJ:Manifest.owners.lookup (String.ofList ['d','e','s','r','e','v','e','r'].reverse)=some Manifest.sig_reversed:=by kernel_rfl
theorem slot_next:Slot "reversed" "__next__" "reversed.__next__" := .of (owner := "reversed") (n := "__next__") (by rw [typeLookup_type,builtinLookup_eq_fast];kernel_rfl) (by decide +kernel) (by decide +kernel) (by decide +kernel) (by first|exact .inl (by decide +kernel)|exact .inr (by decide +kernel)) (by rw [isSubtype_type];kernel_rfl)
theorem mI:Slot "reversed" "__iter__" "reversed.__iter__" := .of (owner := "reversed") (n := "__iter__") (by rw [typeLookup_type,builtinLookup_eq_fast];kernel_rfl) (by decide +kernel) (by decide +kernel) (by decide +kernel) (by first|exact .inl (by decide +kernel)|exact .inr (by decide +kernel)) (by rw [isSubtype_type];kernel_rfl)
theorem rW:Slot "reversed" "__init__" "object.__init__" := .of (owner := "object") (n := "__init__") (by rw [typeLookup_type,builtinLookup_eq_fast];kernel_rfl) (by decide +kernel) (by decide +kernel) (by decide +kernel) (by first|exact .inl (by decide +kernel)|exact .inr (by decide +kernel)) (by rw [isSubtype_type];kernel_rfl)
theorem md:entryFor table "reversed.__next__" = some Builtin.«reversed.__next__» := entryFor_of_tree (by kernel_rfl)
theorem qu:entryFor table "reversed.__iter__" = some Builtin.«dict_keyiterator.__iter__» := entryFor_alias (id' := "dict_keyiterator.__iter__") (by kernel_rfl) (by first|rfl|decide +kernel|(unfold String.splitOn;simp +decide [String.splitOnAux])) (by decide +kernel) (by kernel_rfl)
theorem nu(a:Value):argsOk "reversed.__next__" ⟨[a],[]⟩:=by
 unfold argsOk;rw [signature?_of (id := "reversed.__next__") (n:=['_','_','t','x','e','n','_','_']) (o:=['d','e','s','r','e','v','e','r']) (by kernel_rfl) oJ];kernel_rfl
theorem tw(a:Value):argsOk "reversed.__iter__" ⟨[a],[]⟩:=by
 unfold argsOk;rw [signature?_of (id := "reversed.__iter__") (n:=['_','_','r','e','t','i','_','_']) (o:=['d','e','s','r','e','v','e','r']) (by kernel_rfl) oJ];kernel_rfl
theorem yZ:typeLookup (.type "tuple") "__reversed__" = pure none:=by rw [typeLookup_type,builtinLookup_eq_fast];kernel_rfl
theorem zx:TypeCalled "reversed" "reversed.__new__" "object.__init__" := ⟨by decide +kernel,by decide +kernel,⟨_,_,F.mro_reversed⟩,F.made_reversed,by decide +kernel,by rw [isSubtype_type];kernel_rfl,rW⟩
theorem wy:isSubtype (.type "tuple") (.type "dict")=pure false:=by rw [isSubtype_type];kernel_rfl
section
variable{prog:Program}{w:World}{A:Around}{E:Value->Shared->Prop}{s:Shared}
theorem sE(t:Addr)(items:Array Value)(n:Nat)(dct:Option Addr)(sl:Array (Option Value)) :
  Meets (Builtin.«reversed.__new__» ⟨[.type "reversed",.ref t],[]⟩) (fun _ R s=>s.heap.get? t=some { cls:=.type "tuple",dict:=dct,data:=.seq items n,slots:=sl }/\(items.size:Int)<2^63 /\
   ∀ tk,R (.ok (.ret (.ref s.heap.objs.size))) { s with heap:=s.heap.push { cls:=.type "reversed",data:=.fields #[.ref t,rawInt ((items.size:Int)-1)] },toks:=tk }) :=
 .of_wp fun prog w A R s h=>by
  obtain⟨ht,hsz,h⟩:=h;have hT:s.heap.IsTuple t items:=⟨_,ht,rfl,n,rfl⟩;unfold Builtin.«reversed.__new__»;refine wpAny_bind (wpAny_of_eq (newClass_reversed _) ?_);try dsimp only
  refine wpAny_bind (wpAny_of_eq (a:=()) (by first|rfl|kernel_rfl) ?_);refine wpAny_bind (wpAny_of_eq (a:=()) (by first|rfl|kernel_rfl) ?_);try dsimp only
  refine wpAny_bind (wpAny_specialOf hT.typeIs yZ ?_);try dsimp only
  refine wpAny_bind ?_;show wpAny _ _ (isInstance (.ref t) (.type "dict") >>= _) _ _ s;refine wpAny_bind (wpAny_isInstance hT.typeIs wy ?_);try dsimp only
  show wpAny _ _ (if false=true then _ else _) _ _ s;rw [if_neg am];refine wpAny_bind (wpAny_specialOf hT.typeIs PyProof.Rows.slot_tuple_getitem.lookup ?_);try dsimp only
  show wpAny _ _ (if _=true then _ else _) _ _ s;rw [if_pos (by decide)];refine wpAny_pure ?_;show wpAny _ _ (if (!true)=true then _ else _) _ _ s;rw [if_neg (by decide)];refine wpAny_bind (PyProof.Rows.len_tuple hT hsz ?_);refine wpAny_bind (m:=asInt? _) (wpAny_pure ?_);try dsimp only
  refine wpAny_bind ?_;show wpAny _ _ (newObj (.type "reversed") (.fields #[.ref t,rawInt ((items.size:Int)-1)])) _ _ _;refine wpAny_newObj_type ?_ (by size_fits);exact wpAny_pure ⟨_,rfl,h _⟩
theorem ve{t:Addr}{items:Array Value}{Q:Value->Shared->Prop}(hT:s.heap.IsTuple t items)(hsz:(items.size:Int)<2^63)
  (h:∀ tk,Q (.ref s.heap.objs.size) { s with heap:=s.heap.push { cls:=.type "reversed",data:=.fields #[.ref t,rawInt ((items.size:Int)-1)] },toks:=tk }):wpAny (model prog w) A (call (.type "reversed") [.ref t]) Q E s:=by
 obtain⟨⟨c,dct,dt,sl⟩,hl,hc,n,hd⟩:=hT;have hc':c = .type "tuple" := hc;have hd':dt = .seq items n:=hd;subst hc' hd';refine callType_new zx (by decide) (F.typeCall_reversed_1 _) (F.newCall_reversed_1 _) (fun obj=>F.args_object_init_2 obj _) F.entry_reversed_new (sE t items n dct sl) ⟨hl,hsz,fun tk=>?_⟩;exact⟨⟨_,Heap.get?_push_size _ rfl,rfl⟩,h tk⟩
def Is(h:Heap)(a t:Addr)(i:Int):Prop:=∃ o,h.get? a=some o/\o.cls = .type "reversed" /\ o.data = .fields #[.ref t,rawInt i]
theorem Is.ty{a t:Addr}{i:Int}(x:Is s.heap a t i):s.TypeIs (.ref a) "reversed" := let ⟨o,ho,hc,_⟩:=x;⟨o,ho,hc⟩
theorem mY{a t:Addr}{i:Int}{Q:Value->Shared->Prop}(x:Is s.heap a t i)(h:Q (.ref a) s):wpAny (model prog w) A (pyIter (.ref a)) Q E s:=by
 refine wpAny_pyIter_slot x.ty mI (wpAny_call_entry mI x.ty qu ?_ (tw _));show wpAny _ _ (ret (.ref a)) _ _ s;exact wpAny_pure ⟨_,rfl, "reversed",_,x.ty,slot_next.lookup,h⟩
theorem sD{it t:Addr}{i:Nat}{items:Array Value}{x:Value}{Q:Option Value->Shared->Prop}(hit:Is s.heap it t (i:Int))(hT:s.heap.IsTuple t items)(hx:items[i]? = some x)(hsz:(items.size:Int)<2^63)
  (hQ:∀ h' tk,Is h' it t ((i:Int)-1)->Heap.SameBut it s.heap h'->Q (some x) { s with heap:=h',toks:=tk }):wpAny (model prog w) A (pyNext (.ref it)) Q E s:=by
 obtain⟨o,ho,hc,hd⟩:=id hit;unfold pyNext;refine wpAny_bind (wpAny_attempt (wpAny_callSpecial?_slot (name:=Str.ofString "__next__") hit.ty slot_next (wpAny_call_entry slot_next hit.ty md ?_ (nu _))));unfold Builtin.«reversed.__next__»;refine wpAny_bind (wpAny_of_eq (a:=(Value.ref it,[])) rfl ?_);try dsimp only
 refine wpAny_bind (wpAny_field ho hd (x:=.ref t) rfl ?_);refine wpAny_bind (wpAny_field ho hd (x:=rawInt (i:Int)) rfl ?_);try dsimp only [rawInt]
 rw [if_neg (by omega)];refine wpAny_bind (wpAny_specialOf hT.typeIs PyProof.Rows.slot_tuple_getitem.lookup ?_);show wpAny _ _ (if false=true then _ else _) _ _ s;rw [if_neg am];refine wpAny_bind (wpAny_mkInt ?_);have hlt:i<items.size:=(a8.mp hx).1;refine wpAny_bind (wpAny_attempt ?_);refine PyProof.Rows.getItem_tuple (j:=i) (x:=x) hT (by omega) (by omega) (by unfold seqIndex?;simp;omega) hx ?_;try dsimp only
 refine wpAny_bind (wpAny_field (s:={ s with toks:=s.toks+1 }) ho hd (x:=rawInt (i:Int)) rfl ?_);try dsimp only [rawInt]
 refine wpAny_bind (wpAny_setField (s:={ s with toks:=s.toks+1 }) ho hd (by simp) (wpAny_pure ⟨x,rfl,wpAny_pure (hQ _ _ ?_ (Heap.SameBut.update ..))⟩));exact⟨_,Heap.get?_update_self _ ho (Obj.isFreed_of_fields (Obj.data_mapFields hd _)),(Obj.cls_mapFields ..).trans hc,by rw [Obj.data_mapFields hd];simp [rawInt]⟩
theorem uC{it t:Addr}{Q:Option Value->Shared->Prop}(hh:A.handled=none)(hit:Is s.heap it t (-1))(hQ:∀ h',Heap.ExtBut it s.heap h'->Q none { s with heap:=h' }):wpAny (model prog w) A (pyNext (.ref it)) Q E s:=by
 obtain⟨o,ho,hc,hd⟩:=id hit;unfold pyNext;refine wpAny_bind (wpAny_attempt (wpAny_callSpecial?_slot (name:=Str.ofString "__next__") hit.ty slot_next (wpAny_call_entry slot_next hit.ty md ?_ (nu _))));unfold Builtin.«reversed.__next__»;refine wpAny_bind (wpAny_of_eq (a:=(Value.ref it,[])) rfl ?_);try dsimp only
 refine wpAny_bind (wpAny_field ho hd (x:=.ref t) rfl ?_);refine wpAny_bind (wpAny_field ho hd (x:=rawInt (-1)) rfl ?_);try dsimp only [rawInt]
 rw [if_pos (by decide)];refine wpAny_bind (wpAny_rule ?_);refine wpAny_bind ?_;show wpAny _ _ (setField (.ref it) 1 (rawInt (-1)) >>= _) _ _ s;refine wpAny_bind (wpAny_setField ho hd (by simp) ?_);have ho':=Heap.get?_update_self (h:=s.heap) (Obj.mapFields (·.setIfInBounds 1 (rawInt (-1)))) ho (Obj.isFreed_of_fields (Obj.data_mapFields hd _));refine wpAny_setField ho' (Obj.data_mapFields hd _) (by simp) ?_;refine wpAny_bind ?_;unfold Builtin.SmallTypes.stopIteration;refine wpAny_bind ?_;simp only [newExc,newTuple];refine wpAny_bind (wpAny_newObj_type ?_ (by size_fits));refine wpAny_bind (m:=firstArgMember _ _) (wpAny_of_eq (a:=Value.none) (by first|rfl|(simp only [firstArgMember];rfl)) ?_);refine wpAny_newObj_type ?_ (by size_fits);simp only [raiseNew];refine wpAny_bind (wpAny_handled ?_);first|rw [show A.in1.handled=none from hh]|rw [hh]
 refine wpAny_bind (wpAny_pure (wpAny_throw ?_));refine wpAny_bind (wpAny_isInstance (T := "StopIteration") (b:=true) ⟨_,Heap.get?_push_size _ rfl,rfl⟩ isSubtype_stop ?_);refine wpAny_pure (hQ _ fun b o hb e=>?_);refine Heap.get?_push_of_some _ (Heap.get?_push_of_some _ ?_);exact (Heap.SameBut.update ..).extBut b o hb ((Heap.SameBut.update ..).extBut b o hb e)
end
end RV
namespace L2
open PySem PySem.Spec PyProof.Rows
theorem tL{P:Program}{w:World}{K:Frag}{tg:Expr}(n:Nat)(a it:Addr):Turn P w K tg (⟨fun i H=>i<n/\∃ xs x,SqT K H a xs/\xs.length=n/\xs.reverse[i]? = some x,fun i H x H'=>H'=H/\∀ xs,SqT K H a xs->xs.reverse[i]? = some x,fun i H=>i=n⟩:It) [it] it (fun i h=>RV.Is h it a ((n:Int)-1-(i:Int))) where
 mem:=by simp
 obj:=fun i h st b hb=>by
  have e:b=it:=by simpa using hb
  subst e;obtain⟨o,e,c,d⟩:=st;exact⟨o,e,fun v z=>by rw [d] at z;cases z⟩
 keep:=fun i h h' st k=>by
  obtain⟨o,e,r⟩:=st;exact⟨o,k it (by simp) o e,r⟩
 item:=by
  intro X hP hw hK hc i pins s σ H E I hf st hg;subst hP hw hK;obtain⟨hlt,xs,x,hq,hn,hx⟩:=hg;obtain⟨its,rv,p,hz⟩:=I.tuple hq;have hlen:=rv.length;rw [bw (by omega)] at hx;obtain⟨u,hu,ru⟩:=rv.get hx;obtain⟨f0,f1,f2,f3,f4,f5⟩:=hf it (by simp);have e0:(n:Int)-1-(i:Int)=((xs.length-1-i:Nat):Int):=by omega
  have st':RV.Is s.heap it a ((xs.length-1-i:Nat):Int):=by rw [← e0];exact st
  have hn63:=jL;refine RV.sD (i:=xs.length-1-i) st' (show s.heap.IsTuple a its.toArray from p) (x:=u) (by simpa using hu) (by rw [af];omega) fun h' tk st2 sb=>?_;have I1:Inv X pins σ H { s with heap:=h',toks:=tk }:=I.turned (t':=tk) (fun b o hb e=>(sb.2 b hb).trans e) f0 f1 f3 f4 f5;obtain⟨o,e,c,d⟩:=id st2;refine⟨u,rfl,m8 (s:={ s with heap:=h',toks:=tk }) e c d (by decide) ⟨x,H,I1,ru,⟨rfl,fun ys hy=>?_⟩,?_,fun b hb=>(hf b hb).1⟩⟩
  ·rw [I.tuple_inj hy hq,bw (by omega)];exact hx
  ·show RV.Is h' it a ((n:Int)-1-((i+1:Nat):Int));rw [show (n:Int)-1-((i+1:Nat):Int)=((xs.length-1-i:Nat):Int)-1 by omega];exact st2
 done:=by
  intro X hP hw hK hc i pins s σ H E I hf st hg;subst hP hw hK;have hg':i=n:=hg;subst hg';obtain⟨f0,f1,f2,f3,f4,f5⟩:=hf it (by simp);have st':RV.Is s.heap it a (-1):=by
   have e:(i:Int)-1-(i:Int) = -1:=by omega
   rw [← e];exact st
  exact RV.uC (I.ok.hd hc) st' fun h' eb=>⟨rfl,I.turned (t':=s.toks) (fun b o hb e=>eb b o hb e) f0 f1 f3 f4 f5⟩
 self:=fun _ _ _ _ _ st h=>RV.mY st h
end L2
namespace Hv
open L2
def hv(F:Nat->Int)(t u:Int):Nat->Int
 | 0=>0
 | n+1=>(hv F t u n+F n*t^n)*u
end Hv
namespace L2
instance decLt2 (n:Nat)(i:Int):Decidable (Lt2 n i):=inferInstanceAs (Decidable (i.natAbs<2^n))
end L2
namespace L2
open PySem PySem.Spec PyProof.Rows
section
variable{X:Cx}{e:Expr}{te:TE}{lo hi:Option Expr}{se:Expr}{tl th ts:TO}{pos p2:Pos}
def Bp(X:Cx)(r:V->Option Int->Option Int->Option Int->Hp->VK->Prop):Prop :=
 ∀(pins:List (Addr×Obj)) (s:Shared) (σ:St) (H:Hp) (x:V) (v vl vu vs:Value) (lo hi st:Option Int) (sl:Addr) (Q:VK),Inv X pins σ H s->RelV x v->s.heap.IsSliceOf sl vl vu vs->IsPart vl lo->IsPart vu hi->IsPart vs st->r x lo hi st H Q ->
  ∃ T id,typeLookup (.type T) "__getitem__" = pure (some (.builtin id))/\s.TypeIs v T/\wpAny (model X.prog X.w) X.A (getItem v (.ref sl)) (EP X pins σ Q) X.xe s
def BR(r:V->Option Int->Option Int->Option Int->Hp->VK->Prop)(te:TE)(tl th ts:TO):TE:=fun σ H Q=>te σ H fun x H1=>tl σ H1 fun l H2=>th σ H2 fun u H3=>ts σ H3 fun k H4=>r x l u k H4 Q
theorem sj{r:V->Option Int->Option Int->Option Int->Hp->VK->Prop}(hr:Bp X r)(he:PE X e te)(hl:PO X lo tl)(hu:PO X hi th)(hs:PO X (some se) ts):PE X (.Subscript e (.Slice lo hi (some se) p2) pos) (BR r te tl th ts):=by
 intro pins s σ H Q I h;refine Subscript_ (ja (he pins s σ H _ I h) fun v s1 ⟨x,H1,I1,r1,q1⟩=>?_);refine wpAny_Slice (ja (hl pins s1 σ H1 _ I1 q1) fun vl s2 ⟨l,H2,I2,pl,q2⟩=>ja (hu pins s2 σ H2 _ I2 q2) fun vu s3 ⟨u,H3,I3,pu,q3⟩=>ja (hs pins s3 σ H3 _ I3 q3) fun vs s4 ⟨k,H4,I4,pk,q4⟩=>?_);have I5:Inv X pins σ H4 { s4 with heap:=s4.heap.push { cls:=.type "slice",data:=.fields #[vl,vu,vs] } }:=I4.kept (t':=s4.toks) fun b ob q=>Heap.get?_push_of_some _ q;obtain⟨T,id,hT,ht,hg⟩:=hr pins { s4 with heap:=s4.heap.push { cls:=.type "slice",data:=.fields #[vl,vu,vs] } } σ H4 x v vl vu vs l u k s4.heap.objs.size Q I5 r1 (Heap.IsSliceOf.new ..) pl pu pk q4;show wpAny (model X.prog X.w) X.A (subscriptTail e (.Slice lo hi (some se) p2) v (.ref s4.heap.objs.size)) (EP X pins σ Q) X.xe { s4 with heap:=s4.heap.push { cls:=.type "slice",data:=.fields #[vl,vu,vs] } };exact tail_any (ops:=[v,.ref s4.heap.objs.size]) ht hT hg (by with_unfolding_all rfl)
theorem B5(K:Frag)(hK:X.K=K:=by rfl):Bp X (fun x lo hi st H Q=>lo=none/\hi=none/\st=some (-1)/\∃ a xs,x = .ref a/\SqL K H a xs/\∀ p,H p=none->Q (.ref p) (i6 H p (.lst xs.reverse))):=by
 subst hK;intro pins s σ H x v vl vu vs lo hi st sl Q I rx hs pl pu pk h;obtain⟨rfl,rfl,rfl,a,xs,rfl,hx,q⟩:=h;cases rx;obtain⟨its,r,ht,hz⟩:=I.list hx;have hlen:=r.length;refine⟨"list",_,slot_list_getitem.lookup,ht.isList.typeIs,?_⟩;refine wpAny_getItem_list_slice ht.isList hs pl pu pk (by decide) ?_ (by rw [af] <;> omega);rw [PySem.W.krv_pick];refine⟨.ref s.heap.objs.size,_,I.laid (t':=s.toks) (o:=.lst xs.reverse) (fun b ob q=>Heap.get?_push_of_some _ q) (ai _) ?_,rfl,q _ (I.hok.fresh (ai _))⟩;exact⟨by rw [a5];exact hz,its.reverse,0,r.reverse,Heap.get?_push_size _ rfl⟩
end
def Bq(K:Frag)(H:Hp)(v:V)(P:List Int)(B:Int):Prop:=∃ a t,v = .ref a/\SqT K H a [.ref t,.int B]/\SqT K H t (P.map V.int)
theorem Pol.k{K:Frag}{H:Hp}{v:V}{P:List Int}{B:Int}(h:Pol H v P B):Bq K H v P B:=by
 obtain⟨a,t,e,h1,h2⟩:=h;exact⟨a,t,e,SqT.of h1,SqT.of h2⟩
instance coePolK {K:Frag}{H:Hp}{v:V}{P:List Int}{B:Int}:Coe (Pol H v P B) (Bq K H v P B):=⟨Pol.k⟩
end L2
namespace L2
open PySem PySem.Spec PyProof.Rows
theorem wG{X:Cx}:Bu X "int.bit_length" (fun x vs H Q=>∃ i,x = .int i/\vs=[]/\Q (.int ((Builtin.Int.intBits i:Nat):Int)) H):=by
 intro pins s σ H x vs v us Q I rx rv h;obtain⟨i,rfl,rfl,q⟩:=h;obtain⟨t,rfl⟩:=rx;have hus:=rv.zero;subst hus;exact call_int_bit_length ⟨.int _,H,I.tok _,⟨_,rfl⟩,q⟩
end L2
namespace L2
open PySem PySem.Spec PyProof.Rows
theorem rS{P:Program}{w:World}{K:Frag}{tg:Expr}(n:Nat)(a it:Addr):Turn P w K tg (⟨fun i H=>i<n/\∃ xs x,SqL K H a xs/\xs.length=n/\xs.reverse[i]? = some x,fun i H x H'=>H'=H/\∀ xs,SqL K H a xs->xs.reverse[i]? = some x,fun i H=>i=n⟩:It) [it] it (fun i h=>h.IsRevIter it a ((n:Int)-1-(i:Int))) where
 mem:=by simp
 obj:=fun i h st b hb=>by
  have e:b=it:=by simpa using hb
  subst e;obtain⟨o,e,c,d⟩:=st;exact⟨o,e,fun v z=>by rw [d] at z;cases z⟩
 keep:=fun i h h' st k=>by
  obtain⟨o,e,r⟩:=st;exact⟨o,k it (by simp) o e,r⟩
 item:=by
  intro X hP hw hK hc i pins s σ H E I hf st hg;subst hP hw hK;obtain⟨hlt,xs,x,hq,hn,hx⟩:=hg;obtain⟨its,rv,p,hz⟩:=I.list hq;have hlen:=rv.length;rw [bw (by omega)] at hx;obtain⟨u,hu,ru⟩:=rv.get hx;obtain⟨f0,f1,f2,f3,f4,f5⟩:=hf it (by simp);have e0:(n:Int)-1-(i:Int)=((xs.length-1-i:Nat):Int):=by omega
  have st':s.heap.IsRevIter it a ((xs.length-1-i:Nat):Int):=by rw [← e0];exact st
  refine wpAny_pyNext_rev_item (i:=xs.length-1-i) st' p.isList (x:=u) (by simpa using hu) fun h' st2 sb=>?_;have I1:Inv X pins σ H { s with heap:=h' }:=I.turned (t':=s.toks) (fun b o hb e=>(sb.2 b hb).trans e) f0 f1 f3 f4 f5;obtain⟨o,e,c,d⟩:=id st2;refine⟨u,rfl,m8 (s:={ s with heap:=h' }) e c d (by decide) ⟨x,H,I1,ru,⟨rfl,fun ys hy=>?_⟩,?_,fun b hb=>(hf b hb).1⟩⟩
  ·rw [I.list_inj hy hq,bw (by omega)];exact hx
  ·show h'.IsRevIter it a ((n:Int)-1-((i+1:Nat):Int));rw [show (n:Int)-1-((i+1:Nat):Int)=((xs.length-1-i:Nat):Int)-1 by omega];exact st2
 done:=by
  intro X hP hw hK hc i pins s σ H E I hf st hg;subst hP hw hK;have hg':i=n:=hg;subst hg';obtain⟨f0,f1,f2,f3,f4,f5⟩:=hf it (by simp);have st':s.heap.IsRevIter it a (-1):=by
   have e:(i:Int)-1-(i:Int) = -1:=by omega
   rw [← e];exact st
  exact wpAny_pyNext_rev_end (I.ok.hd hc) st' fun h' eb=>⟨rfl,I.turned (t':=s.toks) (fun b o hb e=>eb b o hb e) f0 f1 f3 f4 f5⟩
 self:=fun _ _ _ _ _ st h=>wpAny_pyIter_revIter st h
end L2
namespace L2
open PySem PySem.Spec PyProof.Rows
theorem sC:fillsNumberSlot (.type "tuple") "mul" = pure false:=PySem.fillsNumberSlot_seq (id := "tuple.__mul__") (r:=some (.builtin "tuple.__rmul__")) F.slot_tuple_mul.lookup (by decide +kernel) F.slot_tuple_rmul.lookup (by decide +kernel)
theorem yq:seqRepeat? (.type "tuple")=pure (some (.builtin "tuple.__mul__")):=by
 unfold seqRepeat?;rw [PySem.seqSlot_of (T := "tuple") (name := "__mul__") (id := "tuple.__mul__") F.slot_tuple_mul.lookup (by decide +kernel),PySem.seqSlot_of (T := "tuple") (name := "__rmul__") (id := "tuple.__rmul__") F.slot_tuple_rmul.lookup (by decide +kernel)];rfl
theorem vQ(a:Int)(t:Tok)(l:Addr)(items:Array Value)(n:Nat)(dd:Option Addr)(sl:Array (Option Value)):Meets (Builtin.«int.__rmul__» ⟨[.int a t,.ref l],[]⟩) (fun _ R s=>s.heap.get? l=some { cls:=.type "tuple",dict:=dd,data:=.seq items n,slots:=sl }/\R (.ok (.ret Value.notImplemented)) s) :=
 .of_wp fun prog w A R s h=>by obtain⟨p1,p2,p3,p4,p5⟩:=s;obtain⟨hl,h⟩:=h;wp_walk;exact⟨_,rfl,h⟩
theorem wE(l:Addr)(items:Array Value)(n:Nat)(u:Tok)(dd:Option Addr)(sl:Array (Option Value)):Meets (Builtin.«tuple.__mul__» ⟨[.ref l,.int 1 u],[]⟩) (fun _ R s=>s.heap.get? l=some { cls:=.type "tuple",dict:=dd,data:=.seq items n,slots:=sl }/\R (.ok (.ret (.ref l))) s) :=
 .of_wp fun prog w A R s h=>by
  obtain⟨p1,p2,p3,p4,p5⟩:=s;obtain⟨hl,h⟩:=h;have f2:=AutoSeq1.sub_tuple_tuple
  wp_walk using AutoSeq1.wpAny_loadPart' hl
  exact⟨_,rfl,h⟩
theorem wD(l:Addr)(items:Array Value)(n:Nat)(x:Int)(u:Tok)(dd:Option Addr)(sl:Array (Option Value))(h0:items.isEmpty=false)(h1:¬ (decide (x < -(2^63)) || decide (x ≥ 2^63))=true)(h2:(x == 1)=false)(h3:¬ x<=0)(h4:¬ (items.size:Int)*x > (2^63-1) / 8)(h5:Builtin.Tuple.tupleTooMany ((items.size:Int)*x)=false)(h6:(List.foldl (fun x1 x2=>x1++x2) #[] (List.replicate x.toNat items)).size<=sizeLine) :
  Meets (Builtin.«tuple.__mul__» ⟨[.ref l,.int x u],[]⟩) (fun _ R s=>s.heap.get? l=some { cls:=.type "tuple",dict:=dd,data:=.seq items n,slots:=sl }/\R (.ok (.ret (.ref s.heap.objs.size))) { s with heap:=s.heap.push { cls:=.type "tuple",data:=.seq (List.foldl (fun x1 x2=>x1++x2) #[] (List.replicate x.toNat items)) } }) :=
 .of_wp fun prog w A R s h=>by
  obtain⟨p1,p2,p3,p4,p5⟩:=s;obtain⟨hl,h⟩:=h;have f2:=AutoSeq1.sub_tuple_tuple
  wp_walk using AutoSeq1.wpAny_loadPart' hl
  rw [if_neg h1]
  wp_walk using AutoSeq1.wpAny_loadPart' hl
  rw [if_neg h4]
  wp_walk
  exact⟨_,rfl,h⟩
def Ay(K:Frag):R2:=fun x y H Q=>∃ l xs,∃ k:Nat,x = .ref l/\y = .int k/\SqT K H l xs/\xs≠[]/\1<=k/\xs.length*k<=100000/\(k=1->Q (.ref l) H)/\(k≠1->∀ p,H p=none->Q (.ref p) (i6 H p (.tup (List.replicate k xs).flatten)))
theorem wc{X:Cx}:OpR X (binaryOp .Mult) (Ay X.K):=by
 intro pins s σ H x y v u Q I rx ry h;obtain⟨l,xs,k,rfl,rfl,hH,hne,hk,hz,q1,q2⟩:=h;cases rx;obtain⟨t,rfl⟩:=ry;obtain⟨its,rv,p,hz2⟩:=I.tuple hH;obtain⟨⟨cls,dd,data,sl⟩,e,hc,n,hd⟩:=p;simp only at hc hd;subst hc hd;have hl:=rv.length;have sz:100000<=sizeLine:=by rw [sizeLine_eq];decide
 have go:∀ z:Int,z=(k:Int)->wpAny (model X.prog X.w) X.A (call (.builtin "tuple.__mul__") [.ref l,.int z t]) (EP X pins σ Q) X.xe s:=by
  rintro z hzk;by_cases h1:k=1
  ·rw [show z=1 by omega];exact call_meets F.slot_tuple_mul ⟨_,e,rfl⟩ F.entry_tuple_mul (F.args_tuple_mul_2 _ _) (wE l its.toArray n t dd sl) ⟨e,⟨.ref l,H,I,rfl,q1 h1⟩⟩
  ·have f0:∀ m:Nat,List.foldl (fun x1 x2=>x1++x2) #[] (List.replicate m its.toArray)=(List.replicate m its).flatten.toArray:=fun m=>by
    have:=k8 its m [];rw [List.nil_append] at this;exact this
   have zk:z.toNat=k:=by omega
   have im:(its.toArray.size:Int)*z=((xs.length*k:Nat):Int):=by rw [hzk,af,← hl];exact (bv _ _).symm
   refine call_meets F.slot_tuple_mul ⟨_,e,rfl⟩ F.entry_tuple_mul (F.args_tuple_mul_2 _ _) (wD l its.toArray n z t dd sl ?_ ?_ ?_ ?_ ?_ ?_ ?_) ⟨e,?_⟩
   ·cases its with
    | nil=>exact absurd (bo.mp hl) hne
    | cons=>rfl
   ·simp;have:xs.length*k ≥ k:=bV _ (cM.mpr hne);omega
   ·have:z≠1:=by omega
    simpa using this
   ·omega
   ·rw [im];omega
   ·unfold Builtin.Tuple.tupleTooMany;rw [im];exact decide_eq_false (by omega)
   ·rw [f0,zk,af,nQ,← hl,cj];omega
   ·rw [f0,zk];refine⟨.ref _,_,I.laid (o:=.tup (List.replicate k xs).flatten) (t':=s.toks) (fun b u e=>Heap.get?_push_of_some _ e) (ai _) ⟨?_,(List.replicate k its).flatten,rv.rep k,⟨_,Heap.get?_push_size _ rfl,rfl,_,rfl⟩⟩,rfl,q2 h1 _ I.fresh⟩;rw [nQ,cj];omega
 generalize hzk:(k:Int)=z;refine wpAny_binaryOp_repeat_ref (T := "tuple") (U := "int") (by decide) ⟨_,e,rfl⟩ (fun s'=>typeIs_int s' z t) sC F.fills_int_mul F.slot_int_rmul yq F.slot_int_index.lookup
  (call_meets F.slot_int_rmul (typeIs_int s z t) F.entry_int_rmul (F.args_int_rmul_2 _ _) (vQ z t l its.toArray n dd sl) ⟨e,rfl,⟨_,e,rfl⟩,go z hzk.symm⟩)
end L2
namespace Ex8
open PySem PySem.W PySem.Calls PyProof.Rows
section
variable{prog:Program}{w:World}{A:Around}{E:Value->Shared->Prop}{s:Shared}{K:Frag}{x C:Addr}{ox:Obj}{od:Option Obj}{name:Str}{expr:Bool}{Q:Value->Shared->Prop}{v:Value}
theorem pA:builtinKind "BaseException.__getattribute__" = some .slot:=by decide +kernel
theorem nt:splitId "BaseException.__getattribute__" = some ("BaseException", "__getattribute__"):=by decide +kernel
theorem BL(X:K.In s.heap)(I:InstAt s.heap x ox C od)(hga:findIn K (.ref C) "__getattribute__" = some (some (.builtin "BaseException.__getattribute__")))(hgt:findIn K (.ref C) "__getattr__" = some none)(hb:mroIn K C (.type "BaseException")=some true)
  (hf:findObj K C od name=some (.value v)) (hh:handedIn v=true) (h:Q v { s with toks:=s.toks+1 }):wpAny (model prog w) A (getAttr (.ref x) name expr) Q E s:=by
 obtain⟨hh',g,d,t,os⟩:=s;have L0:=I.type (M:=model prog w);have L1:=looks_findIn (M:=model prog w) X hga;have L2:=looks_findIn (M:=model prog w) X hgt;have L3:=looks_find (M:=model prog w) X I hf;have sub:Looks (model prog w) hh' (isInstance (.ref x) (.type "BaseException")) true:=L0.andThen (looks_mroIn X hb);have f3:=F.attr_ValueError.ga.bind (.ref x);have hx0:(expr && onTheHeap (Value.builtin "BaseException.__getattribute__"))=false:=by cases expr <;> rfl
 have hx2:(Value.builtin "BaseException.__getattribute__" == Value.builtin "object.__getattribute__")=false:=by decide +kernel
 have hx1:(onTheHeap (Value.ref C) && Value.builtin "BaseException.__getattribute__" == Value.builtin "object.__getattribute__")=false:=by rw [hx2];rfl
 unfold getAttr getAttrBy;refine wpAny_bind (wpAny_mkText (wpAny_holding (wpAny_bind (L0.at (wpAny_bind (L1.at ?_))))));repeat (any_goals (first|assumption|with_reducible refine L2.at ?_|wp_step))
 refine codeAny_call_builtin F.attr_ValueError.ga.plain F.entry_bexc_ga (@check_slot (model prog w) _ _ ⟨hh',g,d,t+1,os⟩ "BaseException.__getattribute__" "BaseException" "__getattribute__" (.ref x) [.str name t] [] _ pA nt sub (F.args_bexc_ga (.ref x) (.str name t)) ?_);unfold Builtin.«object.__getattribute__»;have hv:=handedOut_of hh;repeat (any_goals (first|assumption|with_reducible refine L0.at ?_|with_reducible refine L3.at ?_|wp_step))
end
def vp:List Value:=[.type "ValueError",.type "Exception",.type "BaseException",.type "object"]
structure Xc (K:Frag)(C N:Addr)(cd:ClassData):Prop where
 cls:clsIn K C=some cd
 mro:cd.mro = .ref C :: .ref N::vp
 hd:cd.hasDict=true
 sa:findIn K (.ref C) "__setattr__" = some (some (.builtin "object.__setattr__"))
 ga:findIn K (.ref C) "__getattribute__" = some (some (.builtin "BaseException.__getattribute__"))
 gt:findIn K (.ref C) "__getattr__" = some none
section
variable{prog:Program}{w:World}{A:Around}{E:Value->Shared->Prop}{s:Shared}{K:Frag}{x C N:Addr}{ox:Obj}{od:Option Obj}{name:Str}{v:Value}{cd:ClassData}{R:Result->Shared->Prop}
theorem Xc.mr(c:Xc K C N cd){b:Value}{r:Bool}(h:(Value.ref C::Value.ref N::vp).contains b=r):mroIn K C b=some r:=by
 unfold mroIn;rw [c.cls,cc,c.mro,if_neg (by simp),h]
end
def lz(K:Frag)(C N:Addr):Bool:=match K.lookup C with
 | some ⟨.type "type",_,.cls cd,sl⟩=>(match cd.mro,sl.toList with
  | .ref C'::bm,[_,_,_,_,some (.builtin n),_]=>C' == C && n == "ValueError.__new__" && !cd.hasDel && bm == .ref N::vp && tailIn K vp bm
  | _,_=>false)
 | _=>false
theorem oq{K:Frag}{h:Heap}{C N:Addr}(X:K.In h)(e:lz K C N=true):OwnTail h vp (.ref N::vp)/\∃ nm q Ns bs hdct sn sub ab col dd k0 k1 k2 k3 k5,h.get? C=some (excClassObj nm q C Ns bs (.ref N::vp) hdct sn sub ab col dd k0 k1 k2 k3 k5 "ValueError.__new__"):=by
 unfold lz at e;split at e
 ·rename_i dd cd sl ho;split at e
  ·rename_i C' bm k0 k1 k2 k3 n k5 hm hs;simp only [aC,beq_iff_eq,aY] at e;obtain⟨⟨⟨⟨rfl,rfl⟩,hdel⟩,rfl⟩,ht⟩:=e;obtain⟨nm,bs,mro,ns,qn,hd,sn,sub,ab,col,Be⟩:=cd;dsimp only at hm hdel;subst hm hdel;have hsl:sl = #[k0,k1,k2,k3,some (.builtin "ValueError.__new__"),k5]:=by
    obtain⟨l⟩:=sl;simp only at hs;rw [hs]
   subst hsl;exact⟨tail_of_in X ht,nm,qn,ns,bs,hd,sn,sub,ab,col,dd,k0,k1,k2,k3,k5,X _ _ ho⟩
  ·cases e
 ·cases e
def tF(h:Heap)(C:Addr)(rest:List Value):Heap:=(h.push { cls:=.type "tuple",data:=.seq rest.toArray }).push { cls:=.ref C,data:=.fields #[.ref h.objs.size,.none,.none,.none,.bool false,.none] }
section
variable{prog:Program}{w:World}{A:Around}{E:Value->Shared->Prop}{K:Frag}{C N f:Addr}{h:Heap}{g:Array GenState}{d:Drawn}{t:Nat}{os:OsState}{rest:List Value}
theorem jw{b:Addr}{o:Obj}(e:h.get? b=some o):(tF h C rest).get? b=some o:=Heap.get?_push_of_some _ (Heap.get?_push_of_some _ e)
theorem nW:(tF h C rest).get? (h.objs.size+1)=some { cls:=.ref C,data:=.fields #[.ref h.objs.size,.none,.none,.none,.bool false,.none] }:=by unfold tF;heap_get
theorem pE{Q:Fin->Shared->Prop}(X:K.In h)(e:lz K C N=true)(hi:findIn K (.ref C) "__init__" = some (some (.ref f)))(hf:typeIn K (.ref f)=some (.type "function"))(hrest:rest.length<=sizeLine)
  (hq:wpAny (model prog w) A (call (.ref f) (.ref (h.objs.size+1)::rest)) (fun r s'=>r = .none/\Q (.done (.ret (.ref (h.objs.size+1)))) s') E ⟨tF h C rest,g,d,t,os⟩) :
  wpAny (model prog w) A (Builtin.«type.__call__» ⟨.ref C::rest,[]⟩) Q E ⟨h,g,d,t,os⟩:=by
 obtain⟨T,nm,q,Ns,bs,hdct,sn,sub,ab,col,dd,k0,k1,k2,k3,k5,hC⟩:=oq X e;have F:=PySem.F.excBase_ValueError;repeat (first|with_reducible refine wpAny_loadPart_at hC ?_|with_reducible refine wpAny_madeBy_exc hC ?_|wp_step)
 refine codeAny_call_builtin_code (Code.quiet_builtin _ F.quiet) (wpAny_check_new_subT F T hC ?_);refine codeAny_exc_new_subT F T hC ?_ hrest;show wpAny _ _ _ _ _ _;have X1:K.In (tF h C rest):=X.keeps fun b o e=>jw e;have hC1:=jw (C:=C) (rest:=rest) hC;have hget:=nW (h:=h) (C:=C) (rest:=rest);have hcC:(Value.ref C::Value.ref N::vp).contains (.ref C)=true:=by simp
 have L1:=looks_findIn (M:=model prog w) X1 hi;have L2:=bind_fn (M:=model prog w) X1 (.ref (h.objs.size+1)) hf;show wpAny _ _ _ _ _ ⟨tF h C rest,g,d,t,os⟩;unfold isInstance;repeat (first|with_reducible refine wpAny_loadPart_at hget ?_|(with_reducible refine wpAny_isSubtype_exc hC1 ?_;rw [hcC])|wp_step)
 show wpAny _ _ (typeLookup (.ref C) _) _ _ _;refine L1.at ?_;refine wpAny_holding (wpAny_bind (L2.at (wpAny_bind (wpAny_mono hq (fun r s' hr=>?_) fun _ _ x=>x))));obtain⟨rfl,hQ⟩:=hr
 wp_walk
 exact hQ
theorem zY{Q:Value->Shared->Prop}(X:K.In h)(e:lz K C N=true)(hi:findIn K (.ref C) "__init__" = some (some (.ref f)))(hf:typeIn K (.ref f)=some (.type "function"))(hrest:rest.length<=sizeLine)
  (hq:wpAny (model prog w) (A.under (.builtin "type.__call__" ⟨.ref C::rest,[]⟩)) (call (.ref f) (.ref (h.objs.size+1)::rest)) (fun r s'=>r = .none/\Q (.ref (h.objs.size+1)) s') E ⟨tF h C rest,g,d,t,os⟩) :
  wpAny (model prog w) A (call (.ref C) rest) Q E ⟨h,g,d,t,os⟩:=by
 obtain⟨T,nm,q,Ns,bs,hdct,sn,sub,ab,col,dd,k0,k1,k2,k3,k5,hC⟩:=oq X e;have f1:=tc_lookup;have f2:=tc_bind (.ref C);have hT:(⟨h,g,d,t,os⟩:Shared).TypeIs (.ref C) "type" := ⟨_,hC,rfl⟩;refine wpAny_call (codeAny_of_tree ?_);show wpAny _ _ (callAny (.ref C) _) _ _ _;repeat (any_goals (first|assumption|with_reducible refine wpAny_loadPart_at hC ?_|wp_step))
 refine⟨rfl,?_⟩;exact codeAny_call_builtin_at (Code.quiet_builtin _ (by decide +kernel)) entry_typeCall (wpAny_check_type_call_sub hC (pE X e hi hf hrest hq))
end
section
variable{prog:Program}{w:World}{A:Around}{E:Value->Shared->Prop}{s:Shared}{K:Frag}{x C N:Addr}{ox:Obj}{od:Option Obj}{cd:ClassData}
theorem x6{Q:Option Value->Shared->Prop}(X:K.In s.heap)(I:InstAt s.heap x ox C od)(c:Xc K C N cd)(ha:findIn K (.ref C) "__class__" = some (some (.builtin "object.__class__")))
  (hn:specialIn K (.builtin "object.__class__") "__get__" = some (some (.builtin "getset_descriptor.__get__"))) (htk:takesIn K (.builtin "object.__class__")=some true)
  (h:Q (some (.ref C)) { s with toks:=s.toks+1 }):wpAny (model prog w) A (getAttr? (.ref x) "__class__") Q E s:=by
 have hf:findObj K C od "__class__" = some (.bind (.builtin "getset_descriptor.__get__") (.builtin "object.__class__")):=by
  unfold findObj;rw [c.cls,cc,ha,cc];simp [hn,htk]
 have hm:mroIn K C (.type "object")=some true:=c.mr (by rw [aX,aX];rfl);obtain⟨hh',g,d,t,os⟩:=s;have L0:=I.type (M:=model prog w);have L1:=looks_findIn (M:=model prog w) X c.ga;have L2:=looks_findIn (M:=model prog w) X c.gt;have L3:=looks_find (M:=model prog w) X I hf;have sub:Looks (model prog w) hh' (isInstance (.ref x) (.type "BaseException")) true:=L0.andThen (looks_mroIn X (c.mr (by rw [aX,aX];rfl)));have f3:=F.attr_ValueError.ga.bind (.ref x);have hx2:(Value.builtin "BaseException.__getattribute__" == Value.builtin "object.__getattribute__")=false:=by decide +kernel
 have hx1:(onTheHeap (Value.ref C) && Value.builtin "BaseException.__getattribute__" == Value.builtin "object.__getattribute__")=false:=by rw [hx2];rfl
 unfold getAttr? getAttrBy?;refine wpAny_bind (wpAny_mkText ?_);unfold getAttrBy;repeat (any_goals (first|assumption|with_reducible refine L0.at ?_|with_reducible refine L1.at ?_|with_reducible refine L2.at ?_|wp_step))
 refine codeAny_call_builtin F.attr_ValueError.ga.plain F.entry_bexc_ga (@check_slot (model prog w) _ _ ⟨hh',g,d,t+1,os⟩ "BaseException.__getattribute__" "BaseException" "__getattribute__" (.ref x) [.str "__class__" t] [] _ pA nt sub (F.args_bexc_ga (.ref x) (.str "__class__" t)) ?_);unfold Builtin.«object.__getattribute__»;repeat (any_goals (first|assumption|with_reducible refine L0.at ?_|with_reducible refine L3.at ?_|wp_step))
 refine class_get (s:=⟨hh',g,d,t+1,os⟩) X I hm ?_;have hv:handedOut (.ref C)=pure (.ref C):=handedOut_of rfl;repeat (any_goals (first|assumption|wp_step))
theorem oS(c:Xc K C N cd)(ha:findIn K (.ref C) "__class__" = some (some (.builtin "object.__class__")))
  (hn:specialIn K (.builtin "object.__class__") "__get__" = some (some (.builtin "getset_descriptor.__get__"))) (htk:takesIn K (.builtin "object.__class__")=some true) :
  KitX K (.ref x) (.ref C) (fun h=>∃ ox od,InstAt h x ox C od) where
 ty:=fun _ _ _ ⟨ox,od,I⟩=>I.type
 it:=fun _ _ X _=>by
  have hcD:=c.cls;unfold clsIn at hcD;split at hcD
  ·rename_i c' d' cd' sl' ho;intro A' Q' E' s' k q;unfold isType loadHead;exact wpAny_bind (wpAny_loadPart (k _ _ (X _ _ ho)) (wpAny_pure q))
  ·cases hcD
 ne:=fun h tp dd its n sl X htp=>by
  have hcD:=c.cls;refine cZ.mpr fun q=>?_;have e:C=tp:=Value.ref.inj (beq_iff_eq.mp q);subst e;unfold clsIn at hcD;split at hcD
  ·rename_i c' d' cd' sl' ho;have z:=(X _ _ ho).symm.trans htp;cases z
  ·cases hcD
 ca:=fun X ⟨ox,od,I⟩ k=>x6 X I c ha hn htk k
end
section
variable{prog:Program}{w:World}{A:Around}{E:Value->Shared->Prop}{K:Frag}{C N f:Addr}{h:Heap}{g:Array GenState}{d:Drawn}{t:Nat}{os:OsState}
theorem oo{Q:Fin->Shared->Prop}(X:K.In h)(e:lz K C N=true)(hi:findIn K (.ref C) "__init__" = some (some (.builtin "ValueError.__init__")))
  (hq:∀ h' u,(∀ b o,h.get? b=some o->h'.get? b=some o)->h'.get? (h.objs.size+1)=some { cls:=.ref C,data:=.fields #[.ref u,.none,.none,.none,.bool false,.none] }->Q (.done (.ret (.ref (h.objs.size+1)))) ⟨h',g,d,t,os⟩) :
  wpAny (model prog w) A (Builtin.«type.__call__» ⟨[.ref C],[]⟩) Q E ⟨h,g,d,t,os⟩:=by
 obtain⟨T,nm,q,Ns,bs,hdct,sn,sub,ab,col,dd,k0,k1,k2,k3,k5,hC⟩:=oq X e;have F:=PySem.F.excBase_ValueError;repeat (first|with_reducible refine wpAny_loadPart_at hC ?_|with_reducible refine wpAny_madeBy_exc hC ?_|wp_step)
 refine codeAny_call_builtin_code (Code.quiet_builtin _ F.quiet) (wpAny_check_new_subT F T hC ?_);refine codeAny_exc_new_subT F T hC ?_ (by size_fits);show wpAny _ _ _ _ _ _;have X1:K.In (tF h C []):=X.keeps fun b o e=>jw e;have hC1:=jw (C:=C) (rest:=[]) hC;have hget:=nW (h:=h) (C:=C) (rest:=[]);have hcC:(Value.ref C::Value.ref N::vp).contains (.ref C)=true:=by simp
 have L1:=looks_findIn (M:=model prog w) X1 hi;have T1:=T.keeps (h':=tF h C []) fun b o e=>jw e;show wpAny _ _ _ _ _ ⟨tF h C [],g,d,t,os⟩;unfold isInstance;repeat (first|with_reducible refine wpAny_loadPart_at hget ?_|(with_reducible refine wpAny_isSubtype_exc hC1 ?_;rw [hcC])|wp_step)
 show wpAny _ _ (typeLookup (.ref C) _) _ _ _;refine L1.at ?_;refine wpAny_holding (wpAny_bind (wpAny_of_eq (F.init.bind _) ?_));refine wpAny_bind (wpAny_call (codeAny_call_builtin F.init.plain F.initEntry (wpAny_check_init_subT F T1 hC1 hget rfl ?_)))
 wp_walk
 refine hq _ (tF h C []).objs.size (fun b o hb=>?_) ?_
 ·rw [Heap.get?_update_other _ _ (bU (cm (Heap.lt_size hb)))];exact Heap.get?_push_of_some _ (jw hb)
 ·rw [Heap.get?_update_self _ (Heap.get?_push_of_some _ hget) rfl];rfl
theorem xZ{Q:Value->Shared->Prop}(X:K.In h)(e:lz K C N=true)(hi:findIn K (.ref C) "__init__" = some (some (.builtin "ValueError.__init__")))
  (hq:∀ h' u,(∀ b o,h.get? b=some o->h'.get? b=some o)->h'.get? (h.objs.size+1)=some { cls:=.ref C,data:=.fields #[.ref u,.none,.none,.none,.bool false,.none] }->Q (.ref (h.objs.size+1)) ⟨h',g,d,t,os⟩) :
  wpAny (model prog w) A (call (.ref C) []) Q E ⟨h,g,d,t,os⟩:=by
 obtain⟨T,nm,q,Ns,bs,hdct,sn,sub,ab,col,dd,k0,k1,k2,k3,k5,hC⟩:=oq X e;have f1:=tc_lookup;have f2:=tc_bind (.ref C);have hT:(⟨h,g,d,t,os⟩:Shared).TypeIs (.ref C) "type" := ⟨_,hC,rfl⟩;refine wpAny_call (codeAny_of_tree ?_);show wpAny _ _ (callAny (.ref C) _) _ _ _;repeat (any_goals (first|assumption|with_reducible refine wpAny_loadPart_at hC ?_|wp_step))
 refine⟨rfl,?_⟩;exact codeAny_call_builtin_at (Code.quiet_builtin _ (by decide +kernel)) entry_typeCall (wpAny_check_type_call_sub hC (oo X e hi fun h' u k n=>hq h' u k n))
end
end Ex8
namespace L2
open PySem PySem.Spec PyProof.Rows Ex8
def nc(C:Addr)(d:Option Addr)(u:Array Value):Obj:={ cls:=.ref C,dict:=d,data:=.fields u }
abbrev fx(u:Addr):Array Value:=#[.ref u,.none,.none,.none,.bool false,.none]
def j8(a C:Addr)(d:Option Addr)(u:Array Value):HO:=.ext fun h=>h.get? a=some (nc C d u)
theorem qo{P:Program}{w:World}{H:Hp}{h:Heap}{a C:Addr}{u:Array Value}{d:Option Addr}(e:h.get? a=some (nc C d u)):ObjOk P w H h a (j8 a C d u):=⟨e,⟨_,e⟩,fun _ _ p k=>k _ p⟩
theorem lK{P:Program}{w:World}{H:Hp}{h:Heap}{a C:Addr}{u:Array Value}{d:Option Addr}(ok:HOk P w H h)(e:H a=some (j8 a C d u)):h.get? a=some (nc C d u):=(show ObjOk P w H h a (j8 a C d u) from ok a _ e).1
section
variable{X:Cx}{pins:List (Addr×Obj)}{σ:St}{H:Hp}{s:Shared}{h':Heap}{e dx C:Addr}{u:Array Value}{fs:List (Str×V)}
theorem Inv.exn{rest:List Value}(I:Inv X pins σ H s):Inv X pins σ (i6 H (s.heap.objs.size+1) (j8 (s.heap.objs.size+1) C none (fx s.heap.objs.size))) { s with heap:=tF s.heap C rest } :=
 I.laid (t':=s.toks) (fun b o q=>jw q) (bK _) (qo nW)
theorem Inv.exn0(I:Inv X pins σ H s)(k:∀ b o,s.heap.get? b=some o->h'.get? b=some o)(h1:h'.get? (s.heap.objs.size+1)=some (nc C none u)):Inv X pins σ (i6 H (s.heap.objs.size+1) (j8 (s.heap.objs.size+1) C none u)) { s with heap:=h' } :=
 I.laid (t':=s.toks) k (bK _) (qo h1)
end
section
variable{X:Cx}{pins:List (Addr×Obj)}{σ:St}{H:Hp}{s:Shared}{e dx C N:Addr}{u:Array Value}{fs:List (Str×V)}{cd:ClassData}{f:Str}{v y:V}{A:Around}{E:Value->Shared->Prop}
theorem uW{C N:Addr}:(Value.ref C::Value.ref N::vp).contains (.type "BaseException")=true:=by rw [aX,aX];rfl
theorem ot{b:Bool}{Q:Value->Shared->Prop}(I:Inv X pins σ H s)(he:H e=some (j8 e C (some dx) u))(hd:H dx=some (.xd fs))(c:Xc X.K C N cd)(n:lq X.K C f)(l:fs.lookup f=some v)
  (h:∀ u s',Inv X pins σ H s'->RelV v u->Q u s'):wpAny (model X.prog X.w) A (getAttr (.ref e) f b) Q E s:=by
 obtain⟨mA,n1,r⟩:=(show ObjOk X.prog X.w H s.heap dx (.xd fs) from I.hok dx _ hd);obtain⟨w,hw,rw'⟩:=RelO.some_of (v:=v) (o:=mA f) (by rw [← l];exact r f);obtain⟨od,ho,hl⟩:=mU n1;exact BL (ox:=nc C (some dx) u) (od:=some od) I.kIn ⟨lK I.hok he,rfl,rfl,ho⟩ c.ga c.gt (c.mr uW) (PySem.W.findObj_own (by unfold PySem.W.hasDictIn;rw [c.cls];exact c.hd) n rfl (by rw [hl,hw])) (sU rw') (h w _ (I.tok _) rw')
structure Xi (K:Frag)(C N:Addr)(cd:ClassData):Prop extends Xc K C N cd where
 ha:PySem.W.findIn K (.ref C) "__class__" = some (some (.builtin "object.__class__"))
 hn:PySem.W.specialIn K (.builtin "object.__class__") "__get__" = some (some (.builtin "getset_descriptor.__get__"))
 htk:PySem.W.takesIn K (.builtin "object.__class__")=some true
theorem tH{c:Value}{b:Bool}{d:Option Addr}{Q:Value->Shared->Prop}(I:Inv X pins σ H s)(he:H e=some (j8 e C d u))(hd:∀ dx,d=some dx->∃ fs,H dx=some (.xd fs))(k:Xi X.K C N cd)(q:PySem.W.kitOne X.K (.ref C) c=some b)(h:∀ tk,Q (.bool b) { s with toks:=tk }) :
  wpAny (model X.prog X.w) A (call (.builtin "isinstance") [.ref e,c]) Q E s:=by
 refine PySem.W.kia_one (oS k.toXc k.ha k.hn k.htk) I.kIn ?_ q (fun z=>nomatch z) h;have g:=lK I.hok he;cases d with
 | none=>exact⟨_,none,g,rfl,rfl,trivial⟩
 | some dx =>
  obtain⟨fs,hd⟩:=hd dx rfl;obtain⟨mA,⟨o,_,_,ho,_⟩,_⟩:=(show ObjOk X.prog X.w H s.heap dx (.xd fs) from I.hok dx _ hd);exact⟨_,some o,g,rfl,rfl,ho⟩
end
def Ad(K:Frag)(ta:TE)(f:Str):TE:=fun σ H Q=>ta σ H fun x H1=>∃ a C N cd dx u fs v,x = .ref a/\H1 a=some (j8 a C (some dx) u)/\H1 dx=some (.xd fs)/\Xc K C N cd/\lq K C f/\fs.lookup f=some v/\Q v H1
def vI(C:Addr):TE:=fun _ H Q=>∀ x u,H x=none->Q (.ref x) (i6 H x (j8 x C none (fx u)))
section
variable{X:Cx}{o e value:Expr}{f:Str}{pos pos' tpos:Pos}{ta tv:TE}
theorem v6(he:PE X e ta)(hb:attributeBase e f X.env (eval e X.env)=eval e X.env):PE X (.Attribute e f pos) (Ad X.K ta f):=by
 intro pins s σ H Q I h;refine xk hb (ja (he pins s σ H _ I h) fun u s1 ⟨x,H1,I1,rx,a,C,N,cd,dx,t,fs,v,ex,ea,ed,c,n,l,q⟩=>?_);subst ex;obtain rfl:u=Value.ref a:=rx;exact ot I1 ea ed c n l fun u' s2 I2 ru=>⟨v,H1,I2,ru,q⟩
end
section
variable{X:Cx}{CX:qH}{k:Nat}{f C N:Addr}{fd:FuncData}{ps:List Str}{sp:Sp}{dvs:List V}{ds:List Value}{E:XK}{x m:Str}{p pos apos:Pos}{e o:Expr}{es:List Expr}{ta:TE}{t:TA}
theorem mK{pins:List (Addr×Obj)}{σ:St}{H:Hp}{s:Shared}{Q:VK}{us:List Value}{vs:List V}(em:lz X.K C N=true)(hi:PySem.W.findIn X.K (.ref C) "__init__" = some (some (.ref f)))(hf:PySem.W.typeIn X.K (.ref f)=some (.type "function"))
  (F:FnOk X.prog X.w X.K X.mg X.base CX k f fd ps sp) (hr:Room (k+1) X.A) (hb:Binds X.K fd ps ds) (hd:Vals dvs ds) (hx:kE CX X E) (I:Inv X pins σ H s) (r:Vals vs us) (hl:vs.length<=100)
  (h:∀ x u,H x=none->s.heap.objs.size<=x->sp (.ref x::(vs++dvs)) (i6 H x (j8 x C none (fx u))) (fun v H2=>v = .non/\Q (.ref x) H2) E) :
  wpAny (model X.prog X.w) X.A (call (.ref C) us) (EP X pins σ Q) X.xe s:=by
 have hq:=h (s.heap.objs.size+1) s.heap.objs.size (I.hok.fresh (bK _)) (bK _);have I2:=Inv.exn (C:=C) (rest:=us) I;have r2:Vals (V.ref (s.heap.objs.size+1)::(vs++dvs)) (Value.ref (s.heap.objs.size+1)::(us++ds)):=.cons rfl (r.append hd);have hl':(Value.ref (s.heap.objs.size+1)::us++ds).length=ps.length:=by
  have e:=r2.length;rw [F.len _ _ _ _ hq] at e;exact e.symm
 have hu:us.length<=sizeLine:=by rw [← r.length,sizeLine_eq];omega
 refine zY (h:=s.heap) (g:=s.gens) (d:=s.drawn) (t:=s.toks) (os:=s.os) I.kIn em hi hf hu (wpAny_call (codeAny_mono (F.run _ X.stack _ _ ⟨Value.ref (s.heap.objs.size+1)::us,[]⟩ (Value.ref (s.heap.objs.size+1)::(us++ds)) _ _ E (hr.make C us [])
  (I2.env0.make C us []) (hb _ (Value.ref (s.heap.objs.size+1)::us) I2.kIn hl') r2 hq) fun r s' hq'=>?_))
 cases r with
 | error e=>exact hx pins σ _ _ e s' I2 hq'
 | ok fl =>
  cases fl with
  | ret u =>
   obtain⟨v,H',I3,rv,ev,q3⟩:=I2.after hq';subst ev;exact⟨rv,⟨V.ref (s.heap.objs.size+1),H',I3,rfl,q3⟩⟩
  | next=>exact False.elim hq'
  | brk=>exact False.elim hq'
  | cont=>exact False.elim hq'
theorem si(em:lz X.K C N=true)(hi:PySem.W.findIn X.K (.ref C) "__init__" = some (some (.builtin "ValueError.__init__")))(hk:PySem.W.keepIn X.K (.ref C)=true)(hg:Gl X x)(hm:X.mg x=some (.ref C))(hdb:(x == ("__debug__" : Str))=false:=by decide) :
  PE X (.Call (.Name x p) [] [] pos) (vI C):=by
 intro pins s σ H Q I h;refine wpAny_Call_Name_kw (kj I hg hm ?_ hdb);refine PySem.W.callWith_K0 I.kIn hk ?_;exact xZ (h:=s.heap) (g:=s.gens) (d:=s.drawn) (t:=s.toks) (os:=s.os) I.kIn em hi fun h' u k n=>⟨V.ref (s.heap.objs.size+1),_,I.exn0 k n,rfl,h _ u (I.hok.fresh (bK _))⟩
end
end L2
set_option maxHeartbeats 1000000
namespace L2
open PySem PySem.Spec PyProof.Rows
theorem KV.keys:∀{kvs:List (jb×V)} {vs:List (jb×Value)},KV kvs vs->vs.map (·.1)=kvs.map (·.1)
 | _,_,.nil=>rfl
 | _,_,.cons r t=>by rw [aH,aH,KV.keys t,r.1]
theorem KV.at:∀{kvs:List (jb×V)} {vs:List (jb×Value)} {j:Nat} {kv:jb×V},KV kvs vs->kvs[j]? = some kv->∃ u,vs[j]? = some (kv.1,u)/\RelV kv.2 u
 | _,_,0,_,.cons (b:=q) r t,h=>by cases h;exact⟨q.2,by rw [r.1];rfl,r.2⟩
 | _,_,j+1,_,.cons r t,h=>by
  rw [bS] at h;obtain⟨u,e1,e2⟩:=KV.at t h;exact⟨u,by rw [bS];exact e1,e2⟩
section
variable{X:Cx}
def AD:R2:=fun x y H Q=>∃ p kvs k v,x = .ref p/\y=kV k/\H p=some (.dK kvs)/\(k,v)∈kvs/\Q v H
theorem wK:IxR X AD:=by
 intro value slice pins s σ H x y v u Q I rx ry h hs;obtain⟨p,kvs,k,z,rfl,rfl,hq,he,q⟩:=h;cases rx;obtain⟨hz,hn,vs,rel,dd⟩:kvs.length<=sizeLine/\(p == sysModules)=false/\∃ vs,KV kvs vs/\s.heap.DictOf (i8 X.prog X.w) p vs:=I.hok p _ hq;obtain⟨j,hj⟩:=List.mem_iff_getElem?.mp he;obtain⟨w,ew,rw'⟩:=rel.at hj;have hk:(i8 X.prog X.w).is k u=true:=by
  cases k with
  | inl i=>obtain⟨t,rfl⟩:=ry;exact mX i t
  | inr x=>obtain⟨t,rfl⟩:=ry;exact mW x t
 have dd':=dd;obtain⟨o,es,ep,g1,g2,g3,g4,g5,nd⟩:=dd';have hat:valueAt vs k=some w:=by
  unfold valueAt;have hm:(k,w)∈vs:=aF ew;clear dd g3 g4 g5 rel ew;induction vs with
  | nil=>cases hm
  | cons a vs ih =>
   rw [aH,bt] at nd;rcases ah.mp hm with e|e
   ·subst e;simp
   ·have:a.1≠k:=fun z=>nd.1 (by rw [z];exact bg.mpr ⟨_,e,rfl⟩);rw [bu];rw [decide_eq_false this];exact ih nd.2 e
 have fin:EP X pins σ Q w { s with toks:=s.toks+1 }:=⟨z,H,I.tok _,rw',q⟩;exact subscriptTail_builtinR (x:=w) (T := "dict") ⟨o,g1,g2.1⟩ PySem.F.slot_dict_getitem.lookup (wpAny_getItem_of (Q:=fun r s'=>r=w/\EP X pins σ Q r s') hk dd.mapOf hat ⟨rfl,fin⟩) hs
end
end L2
namespace L2
open PySem PySem.Spec PyProof.Rows
variable{X:Cx}
def B7:V->Option Int->Option Int->Hp->VK->Prop:=fun x lo hi H Q=>∃ z,x = .str z/\z.length<=sizeLine/\Q (.str (StrLaws.sliceText z lo hi)) H
theorem qV{v:Value}{o:Option Int}(h:IsPart v o):∃ l:Option (Int×Tok),v=partValue l/\l.map (·.1)=o:=by
 cases h with
 | none=>exact⟨none,rfl,rfl⟩
 | int i t=>exact⟨some (i,t),rfl,rfl⟩
theorem sl_str:SlR X B7:=by
 intro pins s σ H x v vl vu lo hi sl Q I rx hs pl pu h;obtain⟨z,rfl,hz,q⟩:=h;obtain⟨t,rfl⟩:=(show ∃ t,v=Value.str z t from rx);obtain⟨l,rfl,el⟩:=qV pl;obtain⟨u,rfl,eu⟩:=qV pu;refine⟨"str",_,F.slot_str_getitem.lookup,rfl,?_⟩;refine wpAny_getItem_str_slice (l:=l) (u:=u) (st:=none) hs (by rfl) ?_;have fin:∀(y:Str) (t':Tok) (k:Nat),y=StrLaws.sliceText z lo hi->EP X pins σ Q (.str y t') { s with toks:=k }:=fun y t' k e=>⟨.str y,H,I.tok k,⟨t',rfl⟩,by rw [e];exact q⟩;unfold sliceMade slicePicked;rw [el,eu];unfold StrLaws.sliceText at fin;split
 ·rename_i c;exact fin z t s.toks (if_pos c).symm
 ·rename_i c;refine⟨?_,fin _ _ _ (if_neg c).symm⟩;have h1:=List.length_filterMap_le (fun i=>z.cps[i]?) (Builtin.Str.strSliceIndices lo hi 1 z.length);have h2:=sliceIndices_le lo hi z.length;show (List.filterMap (fun i=>z.cps[i]?) (Builtin.Str.strSliceIndices lo hi 1 z.length)).toArray.size<=sizeLine;rw [af];omega
def vT:V->List V->Hp->VK->Prop:=fun x vs H Q=>∃ a b,x = .str a/\vs=[.str b]/\Q (.bl (Txt.startswith a b)) H
theorem sF:zU X "str.startswith" vT:=by
 intro pins s σ H x vs v us Q I rx rv h;obtain⟨a,b,rfl,rfl,q⟩:=h;obtain⟨t,rfl⟩:=(show ∃ t,v=Value.str a t from rx);obtain⟨u,rfl,ru⟩:=rv.one;obtain⟨t2,rfl⟩:=(show ∃ t,u=Value.str b t from ru);exact call_gives F.slot_str_startswith rfl F.entry_str_startswith (F.args_str_startswith_2 _ _) (gives_str_startswith a b t t2) ⟨.bl _,H,I,rfl,q⟩
def pQ:V->List V->Hp->VK->Prop:=fun x vs H Q=>∃ a b,x = .str a/\vs=[.str b]/\a.length<=sizeLine/\(b.length == 0)=false/\∀ p,H p=none->Q (.ref p) (i6 H p (.tup [.str (Txt.partition a b).1,.str (Txt.partition a b).2.1,.str (Txt.partition a b).2.2]))
theorem nK:zU X "str.partition" pQ:=by
 intro pins s σ H x vs v us Q I rx rv h;obtain⟨a,b,rfl,rfl,ha,hb,q⟩:=h;obtain⟨t,rfl⟩:=(show ∃ t,v=Value.str a t from rx);obtain⟨u,rfl,ru⟩:=rv.one;obtain⟨t2,rfl⟩:=(show ∃ t,u=Value.str b t from ru);refine call_meets F.slot_str_partition rfl F.entry_str_partition (F.args_str_partition_2 _ _) (meets_str_partition a b t t2 hb ha) ?_;have fin:∀(p q' r:Str) (u1 u2 u3:Tok) (k:Nat),(p,q',r)=Txt.partition a b->EP X pins σ Q (.ref s.heap.objs.size) { s with heap:=s.heap.push { cls:=.type "tuple",data:=.seq #[.str p u1,.str q' u2,.str r u3] },toks:=k }:=fun p q' r u1 u2 u3 k e=>by
  refine⟨.ref s.heap.objs.size,_,I.laid (t':=k) (o:=.tup [.str p,.str q',.str r]) (fun b ob q=>Heap.get?_push_of_some _ q) (ai _) ?_,rfl,?_⟩
  ·exact⟨by show 3<=sizeLine;decide,[.str p u1,.str q' u2,.str r u3],.cons ⟨_,rfl⟩ (.cons ⟨_,rfl⟩ (.cons ⟨_,rfl⟩ .nil)),IsTup.new _ _⟩
  ·have:=q _ (I.hok.fresh (ai _));rw [← e] at this;exact this
 show wants _ _ _ (match Builtin.Str.occurrences a b 0 a.length 1 with|i::tail=>_|[]=>_);unfold Txt.partition at fin;split
 ·rename_i i tail e;rw [e] at fin;exact fin _ _ _ _ _ _ _ rfl
 ·rename_i e;rw [e] at fin;exact fin _ _ _ _ _ _ _ rfl
def AE:List V->Hp->VK->Prop:=fun xs H Q=>∃ z n,xs=[.str z]/\intText? z=some n/\z.length<=640/\Q (.int n) H
theorem tj:CallR X (.type "int") AE:=by
 intro pins s σ H xs us Q I r h;obtain⟨z,n,rfl,hn,hz,q⟩:=h;obtain⟨u,rfl,ru⟩:=lr r;obtain⟨t,rfl⟩:=(show ∃ t,u=Value.str z t from ru);exact PySem.W.KIN.call_text hn hz ⟨.int n,H,I.tok _,⟨_,rfl⟩,q⟩
theorem kr:∀{zs:List Str} {k:Nat},Vals (zs.map V.str) (strsFrom k zs)
 | [],_=>.nil
 | z::zs,k=>.cons ⟨_,rfl⟩ kr
def yz:V->List V->Hp->VK->Prop:=fun x vs H Q=>∃ a b,x = .str a/\vs=[.str b]/\a.length+2<=sizeLine/\(b.length == 0)=false/\∀ p,H p=none->Q (.ref p) (i6 H p (.lst ((Txt.split a b).map V.str)))
theorem uE:zU X "str.split" yz:=by
 intro pins s σ H x vs v us Q I rx rv h;obtain⟨a,b,rfl,rfl,ha,hb,q⟩:=h;obtain⟨t,rfl⟩:=(show ∃ t,v=Value.str a t from rx);obtain⟨u,rfl,ru⟩:=rv.one;obtain⟨t2,rfl⟩:=(show ∃ t,u=Value.str b t from ru);have hle:=split_le a b;have fin:∀(zs:List Str) (us:List Value) (k:Nat),zs=Txt.split a b->Vals (zs.map V.str) us->EP X pins σ Q (.ref s.heap.objs.size) { s with heap:=s.heap.push { cls:=.type "list",data:=.seq us.toArray },toks:=k }:=fun zs us k e r=>by
  refine⟨.ref s.heap.objs.size,_,I.laid (t':=k) (o:=.lst (zs.map V.str)) (fun b ob q=>Heap.get?_push_of_some _ q) (ai _) ?_,rfl,?_⟩
  ·exact⟨by rw [aj,e];omega,us,0,r,Heap.get?_push_size _ rfl⟩
  ·have:=q _ (I.hok.fresh (ai _));rw [← e] at this;exact this
 by_cases c1:(decide (a.length<b.length) || decide (Builtin.Str.strKind a<Builtin.Str.strKind b))=true
 ·have e:[a]=Txt.split a b:=by unfold Txt.split;rw [if_pos c1]
  refine call_meets F.slot_str_split rfl F.entry_str_split (F.args_str_split_2 _ _) (meets_str_split_cannot_occur a b t t2 c1) ?_;exact fin [a] [.str a t] s.toks e (.cons ⟨_,rfl⟩ .nil)
 ·have c1':(decide (a.length<b.length) || decide (Builtin.Str.strKind a<Builtin.Str.strKind b))=false:=by simpa using c1
  by_cases c2:(Builtin.Str.occurrences a b 0 a.length (a.length+1)).isEmpty=true
  ·have e:[a]=Txt.split a b:=by unfold Txt.split;rw [if_neg c1,if_pos c2]
   refine call_meets F.slot_str_split rfl F.entry_str_split (F.args_str_split_2 _ _) (meets_str_split_not_found a b t t2 c1' hb c2) ?_;exact fin [a] [.str a t] s.toks e (.cons ⟨_,rfl⟩ .nil)
  ·have e:Builtin.Str.partsBetween a (Builtin.Str.occurrences a b 0 a.length (a.length+1)) b.length=Txt.split a b:=by unfold Txt.split;rw [if_neg c1,if_neg c2]
   refine call_meets F.slot_str_split rfl F.entry_str_split (F.args_str_split_2 _ _) (meets_str_split_sep a b t t2 c1' hb (by simpa using c2) (by omega) (by rw [e];omega)) ?_;exact fin _ _ _ e kr
end L2
namespace L2
open PySem PySem.Spec PyProof.Rows
variable{X:Cx}
def CN(z:Str):It:=⟨fun i _=>i<z.cps.size,fun i H x H'=>H'=H/\∃ c,z.cps[i]? = some c/\x = .str ⟨#[c]⟩,fun i _=>i=z.cps.size⟩
theorem tK{P:Program}{w:World}{K:Frag}{tg:Expr}(it:Addr)(nm:String)(z:Str)(t:Tok)(hn:["enumerate", "zip", "dict_itemiterator", "dict_reverseitemiterator", "odict_iterator", "itertools.zip_longest", "itertools.pairwise"].contains nm=false)
  (W:∀ A:Around,A.handled=none->Walks P w A it [it] [it] z.cps.size (SignAt z) fun i h=>h.IsStrIter it nm z t i) (hs:∀(A:Around) (i:Nat) (s:Shared) (Q:Value->Shared->Prop) (E:Value->Shared->Prop),s.heap.IsStrIter it nm z t i->Q (.ref it) s->wpAny (model P w) A (pyIter (.ref it)) Q E s) :
  Turn P w K tg (CN z) [it] it (fun i h=>h.IsStrIter it nm z t i) where
 mem:=by simp
 obj:=fun i h st b hb=>by
  have e:b=it:=by simpa using hb
  subst e;obtain⟨o,h1,h2,h3⟩:=st;exact⟨o,h1,fun v z=>by rw [h3] at z;cases z⟩
 keep:=fun i h h' ⟨o,h1,h2⟩ k=>⟨o,k it (by simp) _ h1,h2⟩
 item:=by
  intro X hP hw hK hc i pins s σ H E I hf st hg;subst hP hw hK;obtain⟨f0,f1,f2,f3,f4,f5⟩:=hf it (by simp);refine (W X.A (I.ok.hd hc)).item i s _ _ hg st fun v h' tk hv st' kk=>?_;obtain⟨c,u,hc',rfl⟩:=hv;have I1:Inv X pins σ H { s with heap:=h',toks:=tk }:=I.turned (fun b o hb e=>kk b o (by simpa using hb) e) f0 f1 f3 f4 f5;obtain⟨o,h1,h2,h3⟩:=id st';exact⟨_,rfl,m8 (s:={ s with heap:=h',toks:=tk }) (n:=nm) h1 h2 h3 hn ⟨.str ⟨#[c]⟩,H,I1,⟨u,rfl⟩,⟨rfl,c,hc',rfl⟩,st',fun b hb=>(hf b hb).1⟩⟩
 done:=by
  intro X hP hw hK hc i pins s σ H E I hf st hg;subst hP hw hK;obtain⟨f0,f1,f2,f3,f4,f5⟩:=hf it (by simp);have hg:i=z.cps.size:=hg;subst hg;exact (W X.A (I.ok.hd hc)).done s _ _ st fun h' tk kk=>⟨rfl,I.turned (fun b o hb e=>kk b o (by simpa using hb) e) f0 f1 f3 f4 f5⟩
 self:=fun A i s Q E st h=>hs A i s Q E st h
theorem zf{tg:Expr}{pins:List (Addr×Obj)}{σ:St}{R:It->Hp->Prop}{H1:Hp}{s1:Shared}{v:Value}{z:Str}(I1:Inv X pins σ H1 s1)(r1:RelV (.str z) v)(q1:R (CN z) H1):wpAny (model X.prog X.w) X.A (pyIter v) (BI X pins σ tg R) X.xe s1:=by
 obtain⟨t,rfl⟩:=(show ∃ t,v=Value.str z t from r1);have fin:∀ nm:String,["enumerate", "zip", "dict_itemiterator", "dict_reverseitemiterator", "odict_iterator", "itertools.zip_longest", "itertools.pairwise"].contains nm=false->(∀ A:Around,A.handled=none->Walks X.prog X.w A s1.heap.objs.size [s1.heap.objs.size] [s1.heap.objs.size] z.cps.size (SignAt z) fun i h=>h.IsStrIter s1.heap.objs.size nm z t i) ->
   (∀(A:Around) (i:Nat) (s:Shared) (Q:Value->Shared->Prop) (E:Value->Shared->Prop),s.heap.IsStrIter s1.heap.objs.size nm z t i->Q (.ref s1.heap.objs.size) s->wpAny (model X.prog X.w) A (pyIter (.ref s1.heap.objs.size)) Q E s) ->
   BI X pins σ tg R (.ref s1.heap.objs.size) { s1 with heap:=s1.heap.push { cls:=.type nm,data:=.fields #[.str z t,.int 0 0] } }:=fun nm hn W hs=>by
  refine⟨_,[s1.heap.objs.size],_,_,H1,rfl,I1.kept (t':=s1.toks) fun b o e=>Heap.get?_push_of_some _ e,tK _ nm z t hn W hs,⟨_,Heap.get?_push_size _ rfl,rfl,rfl⟩,fun b hb=>?_,q1⟩;rw [ao.mp hb];exact I1.fpOk (ai _) (I1.hok.fresh (ai _))
 cases e:z.cps.all fun x=>decide (x<128) with
 | true=>exact wpAny_pyIter_ascii e (fin _ (by decide) (fun A hA=>Walks.strAscii hA _ z t) fun A i s Q E st h=>wpAny_pyIter_striter_ascii st h)
 | false=>exact wpAny_pyIter_wide e (fin _ (by decide) (fun A hA=>Walks.strWide hA _ z t) fun A i s Q E st h=>wpAny_pyIter_striter_wide st h)
def Cr(K:Frag)(tl:TE):TI:=fun σ H R=>tl σ H fun x H1=>(∃ a,x = .ref a/\(((∃ xs,SqL K H1 a xs)/\R (Dc K a) H1)\/((∃ xs,SqT K H1 a xs)/\R (Db K a) H1)))\/∃ z,x = .str z/\R (CN z) H1
theorem Dq{tg l:Expr}{tl:TE}(hl:PE X l tl):PI X tg l (Cr X.K tl):=by
 intro pins s σ H R I h;refine ja (hl pins s σ H _ I h) fun v s1 ⟨x,H1,I1,r1,q1⟩=>?_;rcases q1 with⟨a,e,q1⟩|⟨z,e,q1⟩
 ·subst e;cases r1;have fp1:∀ b∈[s1.heap.objs.size],ke X pins H1 b:=fun b hb=>by
   have e:b=s1.heap.objs.size:=by simpa using hb
   subst e;exact I1.fpOk (ai _) (I1.hok.fresh (ai _))
  rcases q1 with⟨⟨xs,hq⟩,q⟩|⟨⟨xs,hq⟩,q⟩
  ·obtain⟨its,rv,p,hz⟩:=I1.list hq;exact wpAny_pyIter_list p.isList ⟨s1.heap.objs.size,[s1.heap.objs.size],_,_,H1,rfl,I1.kept (t':=s1.toks) fun b o e=>Heap.get?_push_of_some _ e,rT a _,⟨_,Heap.get?_push_size _ rfl,rfl,rfl⟩,fp1,q⟩
  ·obtain⟨its,rv,p,hz⟩:=I1.tuple hq;exact wpAny_pyIter_tuple (show s1.heap.IsTuple a its.toArray from p) ⟨s1.heap.objs.size,[s1.heap.objs.size],_,_,H1,rfl,I1.kept (t':=s1.toks) fun b o e=>Heap.get?_push_of_some _ e,pI a _,⟨_,Heap.get?_push_size _ rfl,rfl,rfl⟩,fp1,q⟩
 ·subst e;exact zf I1 r1 q1
theorem wg:OpR X (binaryOp .Mult) (fun x y H Q=>∃ z n,x = .str z/\y = .int n/\z.length<=16 /\ -2^63<=n/\n<=1048576/\Q (.str (Txt.mul z n)) H):=by
 intro pins s σ H x y v u Q I rx ry h;obtain⟨z,n,rfl,rfl,h1,h2,h3,q⟩:=h;obtain⟨t,rfl⟩:=(show ∃ t,v=Value.str z t from rx);obtain⟨t',rfl⟩:=(show ∃ t,u=Value.int n t from ry);exact PySem.W.KXi.mul rfl h1 h2 h3 fun tk k _ _=>⟨.str _,H,I.tok k,⟨_,rfl⟩,q⟩
end L2
namespace Ex8
open PySem PySem.W PySem.Calls PyProof.Rows
def Tr(h:Heap)(e C:Addr)(dx:Option Addr)(T:Addr)(fl:Value):Prop:=∃ vs ts oT,h.get? e=some { cls:=.ref C,dict:=dx,data:=.fields vs }/\vs[1]? = some (.ref T)/\T≠e/\h.get? T=some oT/\oT.data = .fields ts/\ts[3]? = some fl
structure Kx (fs xs:List Addr)(h h':Heap):Prop where
 keep:∀ b o,h.get? b=some o->b ∉ fs->b ∉ xs->h'.get? b=some o
 slot:∀ b o,h.get? b=some o->b ∉ xs->∃ sl,h'.get? b=some { o with slots:=sl }
 size:h.objs.size<=h'.objs.size
theorem Kx.trans{fs xs ys zs:List Addr}{h h1 h2:Heap}(a:Kx fs xs h h1)(b:Kx fs ys h1 h2)(hx:∀ c∈xs,c∈zs)(hy:∀ c∈ys,c∈zs\/h.get? c=none):Kx fs zs h h2:=by
 have ny:∀ c o,h.get? c=some o->c ∉ zs->c ∉ ys:=fun c o e n z=>by
  rcases hy c z with q|q
  ·exact n q
  ·rw [e] at q;cases q
 refine⟨fun c o e n m=>b.keep c o (a.keep c o e n fun z=>m (hx c z)) n (ny c o e m),fun c o e m=>?_,az a.size b.size⟩;obtain⟨s1,e1⟩:=a.slot c o e fun z=>m (hx c z);obtain⟨s2,e2⟩:=b.slot c _ e1 (ny c o e m);exact⟨s2,e2⟩
section
variable{M:Model}{A:Around}{E:Value->Shared->Prop}{s:Shared}{base:Heap}{env:Env}{outer:List Env}{L e C T:Addr}{dx:Option Addr}{Q:Unit->Shared->Prop}{vs:Array Value}{fl:Value}
theorem mP{h:Heap}{l:List Env}(ff:h.FunFrames base l){b:Addr}{o:Obj}{us:Array Value}(hb:h.get? b=some o)(hd:o.data = .fields us):b ∉ l.filterMap (·.frame):=fun z=>by
 obtain⟨_,o',e1,e2⟩:=ff.mem z;rw [hb] at e1;cases e1;exact e2 us hd
theorem rX{h:Heap}{b:Addr}(hb:h.objs.size<=b):h.get? b=none:=by
 cases e:h.get? b with
 | none=>rfl
 | some o=>exact absurd (Heap.lt_size e) (cy.mpr hb)
theorem zq{head:Value}{hadNext:Bool}(hfr:A.frames=some (env::outer))(ff:s.heap.FunFrames base (env::outer))(hL:env.frame=some L)(he:s.heap.get? e=some { cls:=.ref C,dict:=dx,data:=.fields vs })(hv:1<vs.size)
  (h:∀ h' T',Kx ((env::outer).filterMap (·.frame)) [e] s.heap h'->s.heap.objs.size<=T'->Tr h' e C dx T' (rawInt ↑L)->Q () { s with heap:=h' }) :
  wpAny M A (do
   let a ← frameOf env
   let pl ← entryPlaceOf L hadNext
   let b ← EntryCells.newEntry head a Value.none (rawInt ↑L) Value.none pl
   setField (Value.ref e) 1 b) Q E s:=by
 have ne:=mP ff he rfl;refine wpAny_bind (wpAny_frameOf_fun hfr ff hL fun h1 so=>wpAny_bind (wpAny_entryPlaceOf fun pl hpl=>wpAny_bind ?_));obtain⟨so1,so2,so3⟩:=so;have e1:h1.get? e=some { cls:=.ref C,dict:=dx,data:=.fields vs }:=(so2 e ne).trans he;unfold EntryCells.newEntry newFields;refine wpAny_newObj_type ?_ (hpl.sizeOk5 ..);have lt:e≠h1.objs.size:=aD (Heap.lt_size e1);refine wpAny_setField (Heap.get?_push_of_some _ e1) rfl hv ?_;refine h _ h1.objs.size ⟨fun b o q n m=>?_,fun b o q m=>?_,?_⟩ ?_ ⟨vs.setIfInBounds 1 (.ref h1.objs.size),_,_,?_,?_,Ne.symm lt,(Heap.get?_update_ne _ _ _ _ (Ne.symm lt)).trans (Heap.get?_push_size _ rfl),rfl,rfl⟩
 ·have m':b≠e:=fun z=>m (ao.mpr z);exact (Heap.get?_update_ne _ _ _ _ m').trans (Heap.get?_push_of_some _ ((so2 b n).trans q))
 ·have m':b≠e:=fun z=>m (ao.mpr z);obtain⟨sl,q1⟩:=so3 b o q;exact⟨sl,(Heap.get?_update_ne _ _ _ _ m').trans (Heap.get?_push_of_some _ q1)⟩
 ·rw [Heap.size_update,Heap.size_push,so1];exact bK _
 ·rw [so1];exact ai _
 ·exact Heap.get?_update_self _ (Heap.get?_push_of_some _ e1) rfl
 ·simp [hv]
theorem yY(hfr:A.frames=some (env::outer))(ff:s.heap.FunFrames base (env::outer))(hL:env.frame=some L)(t:Tr s.heap e C dx T .none)
  (h:∀ h' T',Kx ((env::outer).filterMap (·.frame)) [e,T] s.heap h'->s.heap.objs.size<=T'->Tr h' e C dx T' (rawInt ↑L)->Q () { s with heap:=h' }):wpAny M A (noteFrame (.ref e) env) Q E s:=by
 obtain⟨vs,ts,oT,he,hv,ne,hT,hd,h3⟩:=t;have nT:=mP ff hT hd;unfold noteFrame;simp only [hL];refine wpAny_bind (wpAny_field he rfl hv ?_);rw [if_pos (by rfl)];refine wpAny_bind (wpAny_field hT hd h3 ?_);rw [if_neg (by simp [rawInt])];refine wpAny_bind (wpAny_setField hT hd (a8.mp h3).1 ?_);have k:Kx ((env::outer).filterMap (·.frame)) [T] s.heap (s.heap.update T (Obj.mapFields fun x=>x.setIfInBounds 3 .none)):=by
  refine⟨fun b o q n m=>?_,fun b o q m=>?_,?_⟩
  ·exact (Heap.get?_update_ne _ _ _ _ fun z=>m (ao.mpr z)).trans q
  ·exact⟨o.slots,(Heap.get?_update_ne _ _ _ _ fun z=>m (ao.mpr z)).trans q⟩
  ·rw [Heap.size_update];exact ai _
 have he':(s.heap.update T (Obj.mapFields fun x=>x.setIfInBounds 3 .none)).get? e=some { cls:=.ref C,dict:=dx,data:=.fields vs }:=(Heap.get?_update_ne _ _ _ _ (Ne.symm ne)).trans he;refine zq (s:={ s with heap:=s.heap.update T (Obj.mapFields fun x=>x.setIfInBounds 3 .none) }) (base:=base) hfr ?_ hL he' (a8.mp hv).1 fun h' T' k' n t'=>h h' T' (k.trans k' ?_ ?_) ?_ t'
 ·refine Heap.FunFrames.of_keeps (fun b o q nf=>?_) ff;have:b≠T:=fun z=>by subst z;rw [hT] at q;cases q;exact nf _ hd
  exact⟨o,(Heap.get?_update_ne _ _ _ _ this).trans q,rfl⟩
 ·intro c hc;exact ar _ hc
 ·intro c hc;exact .inl (ao.mp hc ▸ av)
 ·have n:(s.heap.update T (Obj.mapFields fun x=>x.setIfInBounds 3 .none)).objs.size<=T':=n;rw [Heap.size_update] at n;exact n
theorem rF(t:Tr s.heap e C dx T fl)(h:∀ h',Kx [] [T] s.heap h'->Tr h' e C dx T .none->Q () { s with heap:=h' }):wpAny M A (setFlight (.ref e) none) Q E s:=by
 obtain⟨vs,ts,oT,he,hv,ne,hT,hd,h3⟩:=t;unfold setFlight;refine wpAny_bind (wpAny_field he rfl hv ?_);rw [if_pos (by rfl)];refine wpAny_setField hT hd (a8.mp h3).1 (h _ ⟨fun b o q n m=>?_,fun b o q m=>?_,?_⟩ ⟨vs,ts.setIfInBounds 3 .none,_,(Heap.get?_update_ne _ _ _ _ (Ne.symm ne)).trans he,hv,ne,Heap.get?_update_self _ hT (Obj.isFreed_of_fields (Obj.data_mapFields hd _)),Obj.data_mapFields hd _,?_⟩)
 ·exact (Heap.get?_update_ne _ _ _ _ fun z=>m (ao.mpr z)).trans q
 ·exact⟨o.slots,(Heap.get?_update_ne _ _ _ _ fun z=>m (ao.mpr z)).trans q⟩
 ·rw [Heap.size_update];exact ai _
 ·simp [(a8.mp h3).1]
theorem xY{K:Frag}{N:Addr}{Q:Flow->Shared->Prop}{x:Sem Value}(em:lz K C N=true)(hh:A.handled=none)
  (h:wpAny M A x (fun v s₁=>∃ e d u,v = .ref e/\K.In s₁.heap/\s₁.heap.get? e=some { cls:=.ref C,dict:=d,data:=.fields u }/\u[1]? = some .none/\E (.ref e) s₁) E s):wpAny M A (raiseStmt env (some x) none) Q E s:=by
 unfold raiseStmt;refine wpAny_bind (wpAny_mono h (fun v s₁=>?_) fun _ _ q=>q);rintro⟨e,d,u,rfl,X,he,hu,q⟩;obtain⟨hh',g,dd',t,os⟩:=s₁;obtain⟨T,nm,qn,Ns,bs,hdct,sn,sub,ab,col,dd,k0,k1,k2,k3,k5,hC⟩:=oq X em;have hcC:(Value.ref C::Value.ref N::vp).contains (.type "BaseException")=true:=by rw [aX,aX];rfl
 have he:hh'.get? e=some { cls:=.ref C,dict:=d,data:=.fields u }:=he;refine wpAny_bind (wpAny_pure (wpAny_bind (wpAny_holding ?_)));unfold excFromValue isExcClass isInstance;repeat (first|with_reducible refine wpAny_loadPart_at he ?_|with_reducible refine wpAny_loadPart_at hC ?_|(with_reducible refine wpAny_isSubtype_exc hC ?_;rw [hcC])|wp_step)
 rw [hu];refine wpAny_pure ?_;rw [if_neg (by decide)];exact wpAny_pure (wpAny_raiseNew_none hh q)
end
end Ex8
namespace L2
open PySem PySem.Spec PyProof.Rows Ex8
structure Fly (P:Program)(w:World)(outer:List Env)(H:Hp)(s:Shared)(e C:Addr)(dx:Option Addr)(H':Hp)(s':Shared):Prop where
 os:s'.os=s.os
 bare:AllBare s'.gens
 un:Un (pe outer) [] H H' s.heap s'.heap
 hok:HOk P w H' s'.heap
 new:s.heap.objs.size<=e
 fe:H' e=none
 tr:∃ T,Tr s'.heap e C dx T .none/\s.heap.objs.size<=T/\H' T=none
 size:s.heap.objs.size<=s'.heap.objs.size
def zW(P:Program)(w:World):qH:=fun outer H s E ev s'=>∃ e C dx H',ev = .ref e/\Fly P w outer H s e C dx H' s'/\E (.ref C) dx H'
def Be(H:Hp)(e:Addr):Hp:=fun b=>if b=e then none else H b
theorem u7{H:Hp}{e:Addr}:Be H e e=none:=if_pos rfl
theorem zt{H:Hp}{e b:Addr}(h:b≠e):Be H e b=H b:=if_neg h
section
variable{P:Program}{w:World}{fs fs' xs:List Addr}{H H':Hp}{h h1 h2:Heap}{e C:Addr}{d:Option Addr}{u:Array Value}
theorem Un.kx(a:Un fs [] H H' h h1)(k:Kx fs' xs h1 h2)(hf:∀ b∈fs',b∈fs\/h.objs.size<=b)(hx:∀ b∈xs,h.objs.size<=b):Un fs [] H H' h h2:=by
 have nx:∀ b o,h.get? b=some o->b ∉ xs:=fun b o q z=>absurd (Heap.lt_size q) (cy.mpr (hx b z));refine⟨fun b o q n hb hx'=>k.keep b o (a.keep b o q n hb hx') (fun z=>?_) (nx b o q),fun b o q n hb hx'=>?_,a.free,fun b o q hx'=>?_,a.tups,a.frzs,a.tbls⟩
 ·rcases hf b z with y|y
  ·exact hb y
  ·exact absurd (Heap.lt_size q) (cy.mpr y)
 ·obtain⟨sl,q1⟩:=a.slot b o q n hb hx';obtain⟨sl',q2⟩:=k.slot b _ q1 (nx b o q);exact⟨sl',q2⟩
 ·obtain⟨o',q1⟩:=a.there b o q hx';obtain⟨sl',q2⟩:=k.slot b _ q1 (nx b o q);exact⟨_,q2⟩
theorem Un.up(a:Un fs [] H H' h h1)(he:h.objs.size<=e)(hn:H' e=none){o:HO}:Un fs [] H (i6 H' e o) h h1:=by
 have ne:∀ b o',H' b=some o'->b≠e:=fun b o' q z=>by rw [z,hn] at q;cases q
 refine⟨a.keep,a.slot,fun b o q n hx=>?_,a.there,fun b xs q=>?_,fun b o' v q=>?_,fun b ps q=>?_⟩
 ·rw [iT (fun z=>absurd (Heap.lt_size q) (cy.mpr (by rw [z];exact he)))];exact a.free b o q n hx
 ·have:=a.tups b xs q;rw [iT (ne b _ this)];exact this
 ·have:=a.frzs b o' v q;rw [iT (ne b _ this)];exact this
 ·obtain⟨m,this⟩:=a.tbls b ps q;exact⟨m,by rw [iT (ne b _ this)];exact this⟩
theorem HOk.kx(x:HOk P w H h)(k:Kx fs xs h h1)(hf:∀ b∈fs,H b=none)(hx:∀ b∈xs,H b=none):HOk P w H h1:=fun a o q=>by
 have nn:∀ b,(b=a\/H b=some (.own a))->H b≠none:=fun b z y=>by
  rcases z with rfl|z
  ·rw [q] at y;cases y
  ·rw [z] at y;cases y
 exact (x a o q).stay (fun b u hb r=>k.keep b u r (fun z=>nn b hb (hf b z)) fun z=>nn b hb (hx b z)) (fun _ r=>r) fun _ _ r=>r
theorem HOk.up(x:HOk P w H h)(hn:H e=none)(he:h.get? e=some (nc C d u)):HOk P w (i6 H e (j8 e C d u)) h:=fun a o q=>by
 have ne:∀ b o',H b=some o'->b≠e:=fun b o' q z=>by rw [z,hn] at q;cases q
 by_cases z:a=e
 ·subst z;rw [iU] at q;cases q;exact qo he
 ·rw [iT z] at q;exact (x a o q).stay (fun _ _ _ r=>r) (fun b r=>by rw [iT (ne b _ r)];exact r) fun b xs r=>by rw [iT (ne b _ r)];exact r
end
section
variable{X:Cx}{pins:List (Addr×Obj)}{σ:St}{H:Hp}{s:Shared}
theorem rQ{M:Model}{A:Around}{E:Value->Shared->Prop}{i:Nat}{x:Str}{v:V}{Q:Unit->Shared->Prop}(I:Inv X pins σ H s)(hN:X.N.Nodup)(hi:X.N[i]? = some x)(hk:X.env.scope.names.lookup x=some .local)(hv:σ[i]? = some (some v))
  (h:∀ s',Inv X pins (σ.set i none) H s'->Q () s'):wpAny M A (unbindName X.env x) Q E s:=by
 obtain⟨m,hn,hl⟩:=id I.loc;have hcls:(X.env.scope.kind == .class || (X.env.scope.kind == .module && X.env.locals != X.env.globals))=false:=by rw [I.ok.kind];rfl
 have cne:=I.cne;obtain⟨u,_,lk⟩:=hl i x v hi hv (.inl hk);have mx:m x=some u:=by
  rcases lk with⟨_,e⟩|⟨k,_⟩
  ·exact e
  ·have k:X.env.scope.names.lookup x=some .cell\/X.env.scope.names.lookup x=some .free:=k;rw [hk] at k;rcases k with k|k <;> cases k
 refine wpAny_unbindName_local hk hn mx hcls fun h' u' hn' hs=>?_;obtain⟨oL,_,_,hoL,_⟩:=id hn;have tracked:HOk X.prog X.w H h':=fun b ob e=>by
  refine (I.hok b ob e).stay (fun c w' hc q=>(hs.2 c ?_).trans q) (fun _ q=>q) fun _ _ q=>q;rintro rfl;rcases hc with rfl|hc
  ·rw [I.free] at e;cases e
  ·rw [I.free] at hc;cases hc
 refine h _ ⟨I.ok,I.os,I.bare,⟨fun b o e n hb hx=>?_,fun b o e n hb hx=>?_,I.base.free,fun b o e hx=>?_,I.base.tups,I.base.frzs,I.base.tbls⟩,⟨_,hn',fun j y v' e1 e2 e3=>?_⟩,fun y c e=>?_,I.free,I.freeC,fun p hp=>?_,tracked,by simpa using I.len⟩
 ·exact (hs.2 b (aD (ak (Heap.lt_size e) I.ok.above))).trans (I.base.keep b o e n hb hx)
 ·obtain⟨sl,e1⟩:=I.base.slot b o e n hb hx;exact⟨sl,(hs.2 b (aD (ak (Heap.lt_size e) I.ok.above))).trans e1⟩
 ·obtain⟨o',e1⟩:=I.base.there b o e hx;exact⟨o',(hs.2 b (aD (ak (Heap.lt_size e) I.ok.above))).trans e1⟩
 ·by_cases hj:j=i
  ·subst hj;rw [ay] at e2;rw [if_pos rfl] at e2;split at e2 <;> cases e2
  ·rw [ax (Ne.symm hj)] at e2;obtain⟨u',r',q⟩:=hl j y v' e1 e2 e3;refine⟨u',r',?_⟩;rcases q with⟨k,e⟩|⟨k,c,e,z⟩
   ·refine .inl ⟨k,?_⟩;have:y≠x:=fun e=>hj (lZ hN e1 (e ▸ hi));simp [this,e]
   ·exact .inr ⟨k,c,e,z.sameBut hs (cne y c e)⟩
 ·obtain⟨w',z⟩:=I.cell y c e;exact⟨w',z.sameBut hs (cne y c e)⟩
 ·obtain⟨e,n,ne,nf,d⟩:=I.pin p hp;exact⟨(hs.2 p.1 ne).trans e,n,ne,nf,d⟩
def Cx.suite(X:Cx)(A:Around)(E:Value->Shared->Prop):Cx:={ X with A:=A,calm:=false,xe:=E }
theorem Inv.suite{A:Around}(I:Inv X pins σ H s)(E:Value->Shared->Prop)(hA:A.frames=X.A.frames):Inv (X.suite A E) pins σ H s :=
 ⟨⟨I.ok.mod,I.ok.kind,I.ok.glob,I.ok.blt,I.ok.above,I.ok.inj,I.ok.has,I.ok.cab,fun z=>(by cases z),hA.trans I.ok.frames,I.ok.stk,I.ok.exf,I.ok.bs,I.ok.bsz,I.ok.noex,I.ok.exfs,I.ok.funs,I.ok.frf,I.ok.sr,I.ok.rn⟩,I.os,I.bare,I.base,I.loc,I.cell,I.free,I.freeC,I.pin,I.hok,I.len⟩
theorem Inv.unsuite{A:Around}{E:Value->Shared->Prop}(ok:X.Ok)(I:Inv (X.suite A E) pins σ H s):Inv X pins σ H s:=⟨ok,I.os,I.bare,I.base,I.loc,I.cell,I.free,I.freeC,I.pin,I.hok,I.len⟩
theorem vP{CX:qH}{k:Nat}{f:Addr}{fd:FuncData}{ps:List Str}{sp:Sp}{E:XK}{Q:VK}{us:List Value}{vs:List V}(F:FnOk X.prog X.w X.K X.mg X.base CX k f fd ps sp)(hr:Room k X.A)(hb:Binds X.K fd ps [])
  (I:Inv X pins σ H s) (hx:∀ e s',CX X.stack H s E e s'->X.xe e s') (r:Vals vs us) (h:sp vs H Q E):wpAny (model X.prog X.w) X.A (call (.ref f) us) (EP X pins σ Q) X.xe s:=by
 have hl:(us++[]).length=ps.length:=by rw [aL,← r.length];exact F.len _ _ _ _ h
 have hb':=hb s us I.kIn hl;rw [aL] at hb';refine wpAny_call (codeAny_mono (F.run X.A X.stack s H ⟨us,[]⟩ us vs Q E hr I.env0 hb' r h) fun r s' hq=>?_);cases r with
 | error e=>exact hx e s' hq
 | ok fl =>
  cases fl with
  | ret u=>exact I.after hq
  | next=>exact False.elim hq
  | brk=>exact False.elim hq
  | cont=>exact False.elim hq
def Af(X:Cx)(Nc:Addr)(i j gi:Nat)(t:TA):TS:=fun D σ H=>∃ fa k fd ps sp,σ[gi]? = some (some (.ref fa))/\FnOk X.prog X.w X.K X.mg X.base (zW X.prog X.w) k fa fd ps sp/\Binds X.K fd ps []/\PySem.W.keepIn X.K (.ref fa)=true/\Room k X.A /\
 t σ H fun vs H1=>sp vs H1 D.rt fun cls dx H'=>∃ C,cls = .ref C/\PySem.W.exmOne X.K (.ref C) (.ref Nc)=some true/\∀ e u,H' e=none->D.nx ((σ.set i (some (.ref e))).set j none) (i6 H' e (j8 e C dx u))
theorem yH{g n y cl:Str}{p cp rp p1 p2 p3 p4 hp pos:Pos}{a:Expr}{as:List Expr}{t:TA}{i j gi:Nat}{Nc:Addr}(hN:X.N.Nodup)(hgi:X.N[gi]? = some g)(hgv:xp X.env.scope g)(hgd:(g == ("__debug__" : Str))=false)(hgc:(g == ("__classdict__" : Str))=false)
  (hj:X.N[j]? = some n) (hlj:X.env.scope.names.lookup n=some .local) (hnd:(n == ("__debug__" : Str))=false) (hnc:(n == ("__classdict__" : Str))=false) (hi:X.N[i]? = some y) (hli:X.env.scope.names.lookup y=some .local) (hcl:Gl X cl) (hmc:X.mg cl=some (.ref Nc)) (hcd:(cl == ("__debug__" : Str))=false)
  (ha:∀ E',PA (X.wish E') (a::as) t) (hs:starEach (a::as) X.env=(false,eval a X.env)::starEach as X.env) (hpl:(backTo cp (starEach as X.env)).any (·.1)=false) (hst:X.stack=X.env::X.outer/\X.env.frame=some X.env.locals) (hij:i≠j) :
  PS X (.Try [.Return (some (.Call (.Name g p) (a::as) [] cp)) rp] [.ExceptHandler (some (.Name cl p1)) (some n) [.Assign [.Name y p2] (.Name n p3) p4] hp] [] [] pos) (Af X Nc i j gi t):=by
 intro pins s σ H D I ⟨fa,k,fd,ps,sp,hfa,F,hb,hk,hr,h⟩;refine wpAny_Try_except ?_;generalize hE:(fun (e:Value) (s₁:Shared)=>wpAny (model X.prog X.w) X.A (noteFrame e X.env) (fun x s₂=>wpAny (model X.prog X.w) X.A (setFlight e none) (fun x s₃=>wpAny (model X.prog X.w) X.A (handleBy e X.env [.ExceptHandler (some (.Name cl p1)) (some n) [.Assign [.Name y p2] (.Name n p3) p4] hp]) (SP X pins D) X.xe s₃) X.xe s₂) X.xe s₁)=E';obtain⟨hst,hlo⟩:=hst;have hx:∀ H1 s2,Inv (X.wish E') pins σ H1 s2->∀ ev s',zW X.prog X.w X.stack H1 s2 (fun cls dx H'=>∃ C,cls = .ref C/\PySem.W.exmOne X.K (.ref C) (.ref Nc)=some true/\∀ e u,H' e=none->D.nx ((σ.set i (some (.ref e))).set j none) (i6 H' e (j8 e C dx u))) ev s'->E' ev s':=by
  rintro H1 s2 I1 ev s' ⟨e,C,d,H',rfl,Y,C',hc,hm,hd⟩;cases hc;rw [← hE];have I1:=I1.unwish;have I2:=I1.call' Y.os Y.un Y.hok Y.bare (fun b hb=>absurd hb au);obtain⟨T0,t0,nT0,hT0⟩:=Y.tr;have sf:=I2.stkFree;have fr:∀ b∈pe X.stack,b∈pe X.stack\/s2.heap.objs.size<=b:=fun b hb=>.inl hb;have hx2:∀ b∈[e,T0],s2.heap.objs.size<=b:=fun b hb=>by
   rcases ah.mp hb with z|z
   ·exact z ▸ Y.new
   ·exact ao.mp z ▸ nT0
  have hy2:∀ b∈[e,T0],H' b=none:=fun b hb=>by
   rcases ah.mp hb with z|z
   ·exact z ▸ Y.fe
   ·exact ao.mp z ▸ hT0
  have hfr:=I2.ok.frames;have hff:=I2.stack;rw [hst] at hfr hff;refine yY (base:=X.base) hfr hff hlo t0 fun h1 T k1 nT t1=>rF t1 fun h2 k2 t2=>?_;rw [← hst] at k1;have hT:H' T=none:=I2.hok.fresh nT;have nT':s2.heap.objs.size<=T:=az Y.size nT;have hx3:∀ b∈[T],s2.heap.objs.size<=b:=fun b hb=>ao.mp hb ▸ nT';have hy3:∀ b∈[T],H' b=none:=fun b hb=>ao.mp hb ▸ hT;have un2:=(Y.un.kx k1 fr hx2).kx k2 (fun b hb=>absurd hb au) hx3;have ok2:=(I2.hok.kx k1 sf hy2).kx k2 (fun b hb=>absurd hb au) hy3;have I3:Inv X pins σ H' { s' with heap:=h2 }:=I1.call' (s':={ s' with heap:=h2 }) Y.os un2 ok2 Y.bare (fun b hb=>absurd hb au);obtain⟨vs,ts,oT,he2,hv2,ne2,hT2,hd2,h32⟩:=id t2;refine wpAny_handleBy_cons (codeAny_handlers_test ?_) (by intro z;cases z);refine kj (X:=X.suite (X.A.mark (some (.ref e))) fun _ _=>True) (I3.suite _ rfl) hcl hmc ?_ hcd;have Lt:PySem.W.Looks (model X.prog X.w) h2 (typeOf (.ref e)) (.ref C):=by
   intro A' Q' E' s'' k q;unfold typeOf;dsimp only;exact wpAny_bind (wpAny_loadPart (k _ _ he2) (wpAny_pure q))
  refine (PySem.W.exm_one I3.kIn Lt hm).here ?_;refine codeAny_handlers_suite_as (rF (s:={ s' with heap:=h2 }) t2 fun h4 k4 t4=>?_);have un4:=un2.kx k4 (fun b hb=>absurd hb au) hx3;have ok4:=ok2.kx k4 (fun b hb=>absurd hb au) hy3;obtain⟨us,ts4,oT4,he4,hv4,ne4,hT4,hd4,h34⟩:=id t4;have I4:Inv X pins σ (i6 H' e (j8 e C d us)) { s' with heap:=h4 }:=I1.call' (s':={ s' with heap:=h4 }) Y.os (un4.up Y.new Y.fe) (ok4.up Y.fe he4) Y.bare (fun b hb=>absurd hb au);refine jE (i:=j) (v:=.ref e) I4 hN hj (.inl hlj) rfl (fun s5 I5=>?_) (.inr hlj);have jl:j<σ.length:=by rw [I4.len];exact (aq.mp hj).1
  have e1:(σ.set j (some (V.ref e)))[j]? = some (some (.ref e)):=by rw [br jl]
  have cmp:∀ E2,wpAny (model X.prog X.w) (X.A.mark (some (.ref e))) (execs [.Assign [.Name y p2] (.Name n p3) p4] X.env) (fun f s6=>f = .next/\Inv X pins ((σ.set j (some (.ref e))).set i (some (.ref e))) (i6 H' e (j8 e C d us)) s6) E2 s5:=fun E2=>by
   refine wpAny_mono (jh (jJ (X:=X.suite (X.A.mark (some (.ref e))) E2) (i:=i) (pos:=p4) (pos':=p2) hN hi (.inl hli) (lW (X:=X.suite (X.A.mark (some (.ref e))) E2) (pos:=p3) hj (.inl hlj) hnd hnc) rfl (.inr hli)) pins s5 _ _ { nx:=fun σ' H2=>σ'=(σ.set j (some (.ref e))).set i (some (.ref e))/\H2=i6 H' e (j8 e C d us),rt:=fun _ _=>False } (I5.suite E2 rfl) ⟨_,e1,rfl,rfl⟩) (fun f s6 hf=>?_) fun _ _ q=>q;cases f with
   | next =>
    obtain⟨σ',H2,I6,rfl,rfl⟩:=hf;exact⟨rfl,I6.unsuite I.ok⟩
   | brk=>exact hf.choose_spec.choose_spec.2.elim
   | cont=>exact hf.choose_spec.choose_spec.2.elim
   | ret u=>exact hf.choose_spec.choose_spec.choose_spec.2.2.elim
  refine wpAny_mono (cmp _) (fun f s6 hf=>?_) fun _ _ q=>q;obtain⟨rfl,I6⟩:=hf;refine wpAny_bind (wpAny_bindName (jE (i:=j) (v:=.non) I6 hN hj (.inl hlj) rfl (fun s7 I7=>?_) (.inr hlj)));unfold unbindBehindTheSuite;refine wpAny_onRaise (rQ (i:=j) (v:=.non) I7 hN hj hlj ?_ fun s8 I8=>⟨_,_,I8,?_⟩)
  ·rw [br (by rw [aO,aO];exact jl)]
  ·have q:=hd e us Y.fe;have es:(((σ.set j (some (V.ref e))).set i (some (.ref e))).set j (some .non)).set j none=(σ.set i (some (.ref e))).set j none:=by
    rw [List.set_set,List.set_comm _ _ (Ne.symm hij),List.set_set]
   rw [es];exact q
 have hev:wpAny (model X.prog X.w) X.A (eval (.Call (.Name g p) (a::as) [] cp) X.env) (EP (X.wish E') pins σ D.rt) E' s:=by
  refine wpAny_Call_Name_kw (wpAny_mono (lW (X:=X.wish E') (pos:=p) hgi hgv hgd hgc pins s σ H (fun v H'=>v = .ref fa/\H'=H) (I.wish E') ⟨.ref fa,hfa,rfl,rfl⟩) ?_ fun _ _ q=>q);rintro u s1 ⟨v,H',I1,r1,rfl,rfl⟩;cases r1;exact PySem.W.callWith_K (h₀:=X.base) I1.ok.mod.kin hk (ja (ha E' cp pins s1 σ H' _ I1 h) fun us s2 ⟨vs,H1,I2,r,q⟩=>⟨I2.kIn,vP (X:=X.wish E') F hr hb I2 (hx H1 s2 I2) r q⟩) hs hpl
 refine wpAny_execs_cons (wpAny_mono (wpAny_Return_some (pos:=rp) (Q:=fun f s1=>∃ v,f = .ret v/\SP X pins D (.ret v) s1) (ja hev fun v s1 ⟨x,H1,I1,r1,q1⟩=>⟨v,rfl,x,σ,H1,I1.unwish,r1,q1⟩)) (fun f s1 hf=>?_) fun _ _ q=>q);obtain⟨v,rfl,hf⟩:=hf;exact hf
end
end L2
namespace Dp
open PySem L2
abbrev St:=L2.St
def Fl(H:Hp)(f:Addr):Prop:=∃(l:Addr) (ns:List Int) (i c a b:Int),H f=some (.lst [.ref l,.int i,.int c,.int a,.int b])/\H l=some (.lst (ns.map V.int))/\ns.length<=63/\0<=i/\i<=(ns.length:Int)/\0<=c/\0<=a/\a<2147483647
theorem Fl.same{H H':Hp}{f:Addr}(F:Fl H f)(e:Same H H'):Fl H' f:=by
 obtain⟨l,ns,i,c,a,b,h1,h2,h⟩:=F;exact⟨l,ns,i,c,a,b,e _ _ h1,e _ _ h2,h⟩
theorem Fl.lst{H:Hp}{f:Addr}(F:Fl H f):∃ xs,H f=some (.lst xs):=by
 obtain⟨l,ns,i,c,a,b,h1,_⟩:=F;exact⟨_,h1⟩
inductive D where
 | non|bl (b:Bool)|int (i:Int)|str (x:Str)|tup (l:List D)|lst (l:List D)|fl
  | exn (C:Addr) (x:Str) (l:List D)
  | dct (ks:List jb) (l:List D)
  | fn (a:Addr)
def XO(H:Hp)(a C:Addr)(x:Str)(us:List V):Prop:=(us=[]/\∃ u,H a=some (j8 a C none u))\/∃ dx u y,us=[y]/\H a=some (j8 a C (some dx) u)/\H dx=some (.xd [(x,y)])
mutual
def Rp(K:Frag)(f:Addr)(O:List Addr)(H:Hp):D->V->Prop
 | .non,v=>v = .non
 | .bl b,v=>v = .bl b
 | .int i,v=>v = .int i
 | .str x,v=>v = .str x
 | .tup l,v=>∃ a xs,v = .ref a/\SqT K H a xs/\Rps K f O H l xs
 | .lst l,v=>∃ a xs,v = .ref a/\a ∉ O/\H a=some (.lst xs)/\Rps K f O H l xs
 | .fl,v=>v = .ref f
 | .fn a,v=>v = .ref a
 | .exn C x l,v=>∃ a us,v = .ref a/\XO H a C x us/\Rps K f O H l us
 | .dct ks l,v=>∃ a us,v = .ref a/\a ∉ O/\H a=some (.dK (ks.zip us))/\ks.length=us.length/\Rps K f O H l us
def Rps(K:Frag)(f:Addr)(O:List Addr)(H:Hp):List D->List V->Prop
 | [],vs=>vs=[]
 | d::ds,vs=>∃ v r,vs=v::r/\Rp K f O H d v/\Rps K f O H ds r
end
structure Ex (f:Addr)(H H':Hp):Prop where
 sm:Sm f H H'
 fl:Fl H' f
theorem Ex.refl{f:Addr}{H:Hp}(h:Fl H f):Ex f H H:=⟨Sm.refl H,h⟩
theorem Ex.trans{f:Addr}{H H1 H2:Hp}(a:Ex f H H1)(b:Ex f H1 H2):Ex f H H2:=⟨a.sm.trans b.sm,b.fl⟩
theorem Ex.new{f p:Addr}{H:Hp}(F:Fl H f)(h:H p=none)(o:HO):Ex f H (i6 H p o):=⟨Sm.new h o,F.same (Same.new h o)⟩
variable{K:Frag}{Jx:Hp->Prop}{f:Addr}{O O':List Addr}{H H':Hp}
def Ow(H:Hp)(a:Addr):Prop:=(∃ xs,H a=some (.lst xs))\/∃ kvs,H a=some (.dK kvs)
def Kp(O:List Addr)(H H':Hp):Prop:=∀ b o,b ∉ O->H b=some o->H' b=some o
theorem Ex.kp(e:Ex f H H')(h:f∈O):Kp O H H':=fun b o n q=>e.sm.app b o (fun z=>n (z ▸ h)) q
theorem _root_.L2.SqT.kp{a:Addr}{xs:List V}(e:Kp O H H')(hO:∀ b∈O,Ow H b)(h:SqT K H a xs):SqT K H' a xs:=by
 rcases h with (h|⟨o,h⟩)|h
 ·refine .inl (.inl (e a _ (fun z=>?_) h));rcases hO a z with⟨xs,q⟩|⟨xs,q⟩ <;> (rw [q] at h;cases h)
 ·refine .inl (.inr ⟨o,e a _ (fun z=>?_) h⟩);rcases hO a z with⟨xs,q⟩|⟨xs,q⟩ <;> (rw [q] at h;cases h)
 ·exact .inr h
theorem XO.kp{a C:Addr}{x:Str}{us:List V}(e:Kp O H H')(hO:∀ b∈O,Ow H b)(h:XO H a C x us):XO H' a C x us:=by
 rcases h with⟨e1,u,h⟩|⟨dx,u,y,e1,h,hd⟩
 ·refine .inl ⟨e1,u,e a _ (fun z=>?_) h⟩;rcases hO a z with⟨xs,q⟩|⟨xs,q⟩ <;> (rw [q] at h;unfold j8 at h;cases h)
 ·refine .inr ⟨dx,u,y,e1,e a _ (fun z=>?_) h,e dx _ (fun z=>?_) hd⟩
  ·rcases hO a z with⟨xs,q⟩|⟨xs,q⟩ <;> (rw [q] at h;unfold j8 at h;cases h)
  ·rcases hO dx z with⟨xs,q⟩|⟨xs,q⟩ <;> (rw [q] at hd;cases hd)
mutual
theorem Rp.kp(e:Kp O H H')(hO:∀ b∈O,Ow H b):∀{d:D} {v:V},Rp K f O H d v->Rp K f O H' d v
 | .non,_,h=>h
 | .bl _,_,h=>h
 | .int _,_,h=>h
 | .str _,_,h=>h
 | .fl,_,h=>h
 | .fn _,_,h=>h
 | .tup l,v,h=>by
  obtain⟨a,xs,e1,h1,h2⟩:=h;exact⟨a,xs,e1,h1.kp e hO,Rps.kp e hO h2⟩
 | .lst l,v,h=>by
  obtain⟨a,xs,e1,n,h1,h2⟩:=h;exact⟨a,xs,e1,n,e a _ n h1,Rps.kp e hO h2⟩
 | .exn C x l,v,h=>by
  obtain⟨a,us,e1,h1,h2⟩:=h;exact⟨a,us,e1,h1.kp e hO,Rps.kp e hO h2⟩
 | .dct ks l,v,h=>by
  obtain⟨a,us,e1,n,h1,h2,h3⟩:=h;exact⟨a,us,e1,n,e a _ n h1,h2,Rps.kp e hO h3⟩
theorem Rps.kp(e:Kp O H H')(hO:∀ b∈O,Ow H b):∀{ds:List D} {vs:List V},Rps K f O H ds vs->Rps K f O H' ds vs
 | [],_,h=>h
 | d::ds,_,h=>by
  obtain⟨v,r,e1,h1,h2⟩:=h;exact⟨v,r,e1,Rp.kp e hO h1,Rps.kp e hO h2⟩
end
mutual
theorem Rp.less(e:∀ a∈O',a∈O):∀{d:D} {v:V},Rp K f O H d v->Rp K f O' H d v
 | .non,_,h=>h
 | .bl _,_,h=>h
 | .int _,_,h=>h
 | .str _,_,h=>h
 | .fl,_,h=>h
 | .fn _,_,h=>h
 | .tup l,v,h=>by
  obtain⟨a,xs,e1,h1,h2⟩:=h;exact⟨a,xs,e1,h1,Rps.less e h2⟩
 | .lst l,v,h=>by
  obtain⟨a,xs,e1,n,h1,h2⟩:=h;exact⟨a,xs,e1,fun z=>n (e a z),h1,Rps.less e h2⟩
 | .exn C x l,v,h=>by
  obtain⟨a,us,e1,h1,h2⟩:=h;exact⟨a,us,e1,h1,Rps.less e h2⟩
 | .dct ks l,v,h=>by
  obtain⟨a,us,e1,n,h1,h2,h3⟩:=h;exact⟨a,us,e1,fun z=>n (e a z),h1,h2,Rps.less e h3⟩
theorem Rps.less(e:∀ a∈O',a∈O):∀{ds:List D} {vs:List V},Rps K f O H ds vs->Rps K f O' H ds vs
 | [],_,h=>h
 | d::ds,_,h=>by
  obtain⟨v,r,e1,h1,h2⟩:=h;exact⟨v,r,e1,Rp.less e h1,Rps.less e h2⟩
end
theorem Rps.len:∀{ds:List D} {vs:List V},Rps K f O H ds vs->vs.length=ds.length
 | [],_,h=>by rw [show _=[] from h];rfl
 | d::ds,_,h=>by
  obtain⟨v,r,e1,h1,h2⟩:=h;rw [e1,aJ,aJ,Rps.len h2]
theorem Rps.nil:Rps K f O H [] []:=rfl
theorem Rps.get:∀{ds:List D} {vs:List V} {i:Nat} {d:D},Rps K f O H ds vs->ds[i]? = some d->∃ v,vs[i]? = some v/\Rp K f O H d v
 | [],_,_,_,_,e=>by simp at e
 | d0::ds,_,i,d,h,e=>by
  obtain⟨v,r,e1,h1,h2⟩:=h;subst e1;cases i with
  | zero =>
   simp at e;subst e;exact⟨v,rfl,h1⟩
  | succ i =>
   obtain⟨w,hw,h⟩:=Rps.get h2 (i:=i) (d:=d) (by simpa using e);exact⟨w,by simpa using hw,h⟩
theorem Rps.append:∀{ds es:List D} {vs ws:List V},Rps K f O H ds vs->Rps K f O H es ws->Rps K f O H (ds++es) (vs++ws)
 | [],_,_,_,h,t=>by rw [show _=[] from h];exact t
 | d::ds,_,_,_,h,t=>by
  obtain⟨v,r,e1,h1,h2⟩:=h;subst e1;exact⟨v,_,rfl,h1,Rps.append h2 t⟩
theorem Rps.take:∀{ds:List D} {vs:List V} (n:Nat),Rps K f O H ds vs->Rps K f O H (ds.take n) (vs.take n)
 | _,_,0,_=>by rw [List.take_zero,List.take_zero];rfl
 | [],_,n+1,h=>by rw [show _=[] from h];rfl
 | d::ds,_,n+1,h=>by
  obtain⟨v,r,e1,h1,h2⟩:=h;subst e1;exact⟨v,_,rfl,h1,Rps.take n h2⟩
theorem Rps.drop:∀{ds:List D} {vs:List V} (n:Nat),Rps K f O H ds vs->Rps K f O H (ds.drop n) (vs.drop n)
 | _,_,0,h=>h
 | [],_,n+1,h=>by rw [show _=[] from h];rfl
 | d::ds,_,n+1,h=>by
  obtain⟨v,r,e1,h1,h2⟩:=h;subst e1;exact Rps.drop n h2
theorem Rps.set{d:D}{v:V}(q:Rp K f O H d v):∀{ds:List D} {vs:List V} (n:Nat),Rps K f O H ds vs->Rps K f O H (ds.set n d) (vs.set n v)
 | [],_,n,h=>by rw [show _=[] from h];rfl
 | d0::ds,_,0,h=>by
  obtain⟨w,r,e1,h1,h2⟩:=h;subst e1;exact⟨v,_,rfl,q,h2⟩
 | d0::ds,_,n+1,h=>by
  obtain⟨w,r,e1,h1,h2⟩:=h;subst e1;exact⟨w,_,rfl,h1,Rps.set q n h2⟩
theorem Rps.reverse:∀{ds:List D} {vs:List V},Rps K f O H ds vs->Rps K f O H ds.reverse vs.reverse
 | [],_,h=>by rw [show _=[] from h];rfl
 | d::ds,_,h=>by
  obtain⟨v,r,e1,h1,h2⟩:=h;subst e1;rw [bQ,bQ];exact Rps.append (Rps.reverse h2) ⟨v,[],rfl,h1,rfl⟩
theorem Rps.flat{ds:List D}{vs:List V}(h:Rps K f O H ds vs):∀ n,Rps K f O H (List.replicate n ds).flatten (List.replicate n vs).flatten
 | 0=>rfl
 | n+1=>by
  rw [aV,aV,bh,bh];exact Rps.append h (Rps.flat h n)
theorem Rps.bls:∀{bs:List Bool} {vs:List V},Rps K f O H (bs.map D.bl) vs->vs=bs.map V.bl
 | [],_,h=>h
 | b::bs,_,h=>by
  obtain⟨v,r,e1,h1,h2⟩:=h;rw [e1,show v=_ from h1,Rps.bls h2];rfl
theorem Rps.ints:∀{bs:List Int} {vs:List V},Rps K f O H (bs.map D.int) vs->vs=bs.map V.int
 | [],_,h=>h
 | b::bs,_,h=>by
  obtain⟨v,r,e1,h1,h2⟩:=h;rw [e1,show v=_ from h1,Rps.ints h2];rfl
inductive OB where
 | ls (l:List D)|dc (kvs:List (jb×D))
def OB.toD:OB->D
 | .ls l=>.lst l
 | .dc kvs=>.dct (kvs.map (·.1)) (kvs.map (·.2))
def OR(K:Frag)(f:Addr)(O:List Addr)(H:Hp)(a:Addr):OB->Prop
 | .ls l=>∃ xs,H a=some (.lst xs)/\Rps K f O H l xs
 | .dc kvs=>∃ us,H a=some (.dK ((kvs.map (·.1)).zip us))/\(kvs.map (·.1)).length=us.length/\Rps K f O H (kvs.map (·.2)) us
theorem OR.map{a:Addr}{o:OB}(h:OR K f O H a o)(k:∀ x,H a=some x->H' a=some x)(r:∀ ds vs,Rps K f O H ds vs->Rps K f O' H' ds vs):OR K f O' H' a o:=by
 cases o
 ·obtain⟨xs,h1,h2⟩:=h;exact⟨xs,k _ h1,r _ _ h2⟩
 ·obtain⟨us,h1,h2,h3⟩:=h;exact⟨us,k _ h1,h2,r _ _ h3⟩
theorem OR.ow{a:Addr}{o:OB}(h:OR K f O H a o):Ow H a:=by
 cases o
 ·obtain⟨xs,h1,_⟩:=h;exact .inl ⟨_,h1⟩
 ·obtain⟨us,h1,_⟩:=h;exact .inr ⟨_,h1⟩
theorem OR.rp{a:Addr}{o:OB}(h:OR K f O H a o)(n:a ∉ O):Rp K f O H o.toD (.ref a):=by
 cases o
 ·obtain⟨xs,h1,h2⟩:=h;exact⟨a,xs,rfl,n,h1,h2⟩
 ·obtain⟨us,h1,h2,h3⟩:=h;exact⟨a,us,rfl,n,h1,h2,h3⟩
inductive SD where
 | no|val (d:D)|ow (o:OB)
abbrev SD.own(l:List D):SD:=.ow (.ls l)
abbrev SD.odc(kvs:List (jb×D)):SD:=.ow (.dc kvs)
abbrev SS:=List SD
structure SlD (K:Frag)(Jx:Hp->Prop)(f:Addr)(O:List Addr)(σ:St)(H:Hp)(ss:SS):Prop where
 fl:Fl H f
 fO:f∈O
 al:∀ a∈O,Ow H a
 lO:∀ l r,H f=some (.lst (.ref l::r))->l ∉ O
 len:ss.length=σ.length
 val:∀(i:Nat) (d:D),ss[i]? = some (SD.val d)->∃ v,σ[i]? = some (some v)/\Rp K f O H d v
 own:∀(i:Nat) (o:OB),ss[i]? = some (SD.ow o)->∃ a,σ[i]? = some (some (V.ref a))/\a∈O/\a≠f/\OR K f O H a o
 j:∀ H',Ex f H H'->Jx H'
variable{σ:St}{ss:SS}
theorem SlD.ex(R:SlD K Jx f O σ H ss)(e:Ex f H H'):SlD K Jx f O σ H' ss where
 j:=fun H2 e2=>R.j H2 (e.trans e2)
 fl:=e.fl
 fO:=R.fO
 al:=fun a h=>by
  by_cases z:a=f
  ·subst z;exact .inl e.fl.lst
  ·rcases R.al a h with⟨xs,q⟩|⟨xs,q⟩
   ·exact .inl ⟨xs,e.sm.app a _ z q⟩
   ·exact .inr ⟨xs,e.sm.app a _ z q⟩
 lO:=fun l r h=>by
  obtain⟨l0,ns,i,c,a,b,h1,_⟩:=R.fl;obtain⟨r',h2⟩:=e.sm.key _ _ h1;rw [h2] at h;cases h;exact R.lO _ _ h1
 len:=R.len
 val:=fun i d h=>by
  obtain⟨v,h1,h2⟩:=R.val i d h;exact⟨v,h1,h2.kp (e.kp R.fO) R.al⟩
 own:=fun i o h=>by
  obtain⟨a,h1,h2,h3,h4⟩:=R.own i o h;exact⟨a,h1,h2,h3,h4.map (fun x q=>e.sm.app a x h3 q) fun ds vs r=>r.kp (e.kp R.fO) R.al⟩
theorem SlD.ownL(R:SlD K Jx f O σ H ss)(i:Nat)(l:List D)(h:ss[i]? = some (SD.own l)):∃ a xs,σ[i]? = some (some (V.ref a))/\a∈O/\a≠f/\H a=some (.lst xs)/\Rps K f O H l xs:=by
 obtain⟨a,h1,h2,h3,xs,h4,h5⟩:=R.own i _ h;exact⟨a,xs,h1,h2,h3,h4,h5⟩
theorem SlD.ownC(R:SlD K Jx f O σ H ss){i:Nat}{kvs:List (jb×D)}(h:ss[i]? = some (SD.odc kvs)):∃ a us,σ[i]? = some (some (V.ref a))/\a∈O/\a≠f/\H a=some (.dK ((kvs.map (·.1)).zip us))/\(kvs.map (·.1)).length=us.length/\Rps K f O H (kvs.map (·.2)) us:=by
 obtain⟨a,h1,h2,h3,us,h4,h5,h6⟩:=R.own i _ h;exact⟨a,us,h1,h2,h3,h4,h5,h6⟩
theorem SlD.tr(R:SlD K Jx f O σ H ss):SlD K (fun _=>True) f O σ H ss:=⟨R.fl,R.fO,R.al,R.lO,R.len,R.val,R.own,fun _ _=>trivial⟩
theorem SlD.up(R:SlD K Jx f O σ H ss)(e:Ex f H H'){d:D}{v:V}(h:Rp K f O H d v):Rp K f O H' d v:=h.kp (e.kp R.fO) R.al
theorem SlD.ups(R:SlD K Jx f O σ H ss)(e:Ex f H H'){d:List D}{v:List V}(h:Rps K f O H d v):Rps K f O H' d v:=h.kp (e.kp R.fO) R.al
theorem SlD.new(R:SlD K Jx f O σ H ss){p:Addr}(h:H p=none)(o:HO):Ex f H (i6 H p o):=Ex.new R.fl h o
theorem SlD.nO(R:SlD K Jx f O σ H ss){p:Addr}(h:H p=none):p ∉ O:=fun z=>by
 rcases R.al p z with⟨xs,q⟩|⟨xs,q⟩ <;> (rw [h] at q;cases q)
theorem SlD.lst(R:SlD K Jx f O σ H ss){p:Addr}(h:H p=none){ds:List D}{xs:List V}(q:Rps K f O H ds xs):Rp K f O (i6 H p (.lst xs)) (.lst ds) (.ref p) :=
 ⟨p,xs,rfl,R.nO h,iU,R.ups (R.new h _) q⟩
theorem SlD.tup(R:SlD K Jx f O σ H ss){p:Addr}(h:H p=none){ds:List D}{xs:List V}(q:Rps K f O H ds xs):Rp K f O (i6 H p (.tup xs)) (.tup ds) (.ref p) :=
 ⟨p,xs,rfl,SqT.of iU,R.ups (R.new h _) q⟩
structure TEd where
 run:SS->(D->Prop)->Prop
 mono:∀{ss Q Q'},(∀ d,Q d->Q' d)->run ss Q->run ss Q'
structure TTd where
 run:SS->(Bool->Prop)->Prop
 mono:∀{ss Q Q'},(∀ d,Q d->Q' d)->run ss Q->run ss Q'
structure TAd where
 run:SS->(List D->Prop)->Prop
 mono:∀{ss Q Q'},(∀ d,Q d->Q' d)->run ss Q->run ss Q'
structure TOd where
 run:SS->(Option Int->Prop)->Prop
 mono:∀{ss Q Q'},(∀ d,Q d->Q' d)->run ss Q->run ss Q'
structure TGd where
 tg:List Nat
 run:D->SS->(SS->Prop)->Prop
 mono:∀{d ss Q Q'},(∀ d,Q d->Q' d)->run d ss Q->run d ss Q'
def LE(K:Frag)(Jx:Hp->Prop)(t:TEd):TE:=fun σ H Q=>∃ f O ss,SlD K Jx f O σ H ss/\t.run ss fun d=>∀ v H',Ex f H H'->Rp K f O H' d v->Q v H'
def LT(K:Frag)(Jx:Hp->Prop)(t:TTd):TT:=fun σ H Q=>∃ f O ss,SlD K Jx f O σ H ss/\t.run ss fun d=>∀ H',Ex f H H'->Q d H'
def LA(K:Frag)(Jx:Hp->Prop)(t:TAd):TA:=fun σ H Q=>∃ f O ss,SlD K Jx f O σ H ss/\t.run ss fun ds=>∀ vs H',Ex f H H'->Rps K f O H' ds vs->Q vs H'
def LO(K:Frag)(Jx:Hp->Prop)(t:TOd):TO:=fun σ H Q=>∃ f O ss,SlD K Jx f O σ H ss/\t.run ss fun d=>∀ H',Ex f H H'->Q d H'
abbrev BH:=List D->(D->Prop)->Prop
def ms(K:Frag)(n:Nat)(sp:BH):Sp:=fun vs H Q _=>vs.length=n/\∃ f O ds,Fl H f/\f∈O/\(∀ a∈O,Ow H a)/\(∀ l r,H f=some (.lst (.ref l::r))->l ∉ O)/\Rps K f O H ds vs/\sp ds fun d=>∀ v H',Ex f H H'->Rp K f O H' d v->Q v H'
variable{X:Cx}
theorem _root_.L2.PE.weak{e:Expr}{t t':TE}(h:PE X e t)(w:∀ σ H Q,t' σ H Q->t σ H Q):PE X e t':=fun pins s σ H Q I q=>h pins s σ H Q I (w σ H Q q)
theorem _root_.L2.PT.weak{e:Expr}{t t':TT}(h:PT X e t)(w:∀ σ H Q,t' σ H Q->t σ H Q):PT X e t':=fun pins s σ H Q I q=>h pins s σ H Q I (w σ H Q q)
theorem _root_.L2.PA.weak{e:List Expr}{t t':TA}(h:PA X e t)(w:∀ σ H Q,t' σ H Q->t σ H Q):PA X e t':=fun pos pins s σ H Q I q=>h pos pins s σ H Q I (w σ H Q q)
theorem _root_.L2.PO.weak{e:Option Expr}{t t':TO}(h:PO X e t)(w:∀ σ H Q,t' σ H Q->t σ H Q):PO X e t':=fun pins s σ H Q I q=>h pins s σ H Q I (w σ H Q q)
def c9(i:Nat):TEd:=⟨fun ss Q=>match ss[i]? with|some (SD.val d)=>Q d|_=>False,fun {ss Q Q'} h q=>by
 revert q;split
 ·exact h _
 ·exact id⟩
theorem c9.ok{i:Nat}{e:Expr}(h:PE X e (jO i)):PE X e (LE X.K Jx (c9 i)):=h.weak fun σ H Q ⟨f,O,ss,R,q⟩=>by
 have q:(match ss[i]? with|some (SD.val d)=>(∀ v H',Ex f H H'->Rp X.K f O H' d v->Q v H')|_=>False):=q;revert q;split
 ·rename_i d e;intro q;obtain⟨v,h1,h2⟩:=R.val i d e;exact⟨v,h1,q v H (Ex.refl R.fl) h2⟩
 ·exact False.elim
def dC(d:D):TEd:=⟨fun _ Q=>Q d,fun h q=>h _ q⟩
theorem dC.ok{e:Expr}{d:D}{v:V}(h:PE X e (tC v))(r:∀ f O H,Rp X.K f O H d v):PE X e (LE X.K Jx (dC d)):=h.weak fun σ H Q ⟨f,O,ss,R,q⟩=>q v H (Ex.refl R.fl) (r f O H)
abbrev OD:=D->D->(D->Prop)->Prop
def d2(o:OD)(m:∀{x y Q Q'},(∀ d,Q d->Q' d)->o x y Q->o x y Q')(a b:TEd):TEd:=⟨fun ss Q=>a.run ss fun x=>b.run ss fun y=>o x y Q,fun h q=>a.mono (fun x q=>b.mono (fun y q=>m h q) q) q⟩
def RD(K:Frag)(r:R2)(o:OD):Prop:=∀(f:Addr) (O:List Addr) (σ:St) (ss:SS) (H:Hp) (dx dy:D) (x y:V) (Q:VK),SlD K (fun _=>True) f O σ H ss->Rp K f O H dx x->Rp K f O H dy y->o dx dy (fun d=>∀ v H',Ex f H H'->Rp K f O H' d v->Q v H')->r x y H Q
theorem d2.ok{e:Expr}{a b:TEd}{r:R2}{o:OD}{m}(hr:RD X.K r o)(h:PE X e (Aj r (LE X.K Jx a) (LE X.K Jx b))):PE X e (LE X.K Jx (d2 o m a b)):=h.weak fun σ H Q ⟨f,O,ss,R,q⟩=>by
 refine⟨f,O,ss,R,a.mono (fun dx q v1 H1 e1 r1=>?_) q⟩;refine⟨f,O,ss,R.ex e1,b.mono (fun dy q v2 H2 e2 r2=>?_) q⟩;exact hr f O σ ss H2 dx dy v1 v2 Q ((R.ex e1).ex e2).tr ((R.ex e1).up e2 r1) r2 (m (fun d q v H' e3 r3=>q v H' (e1.trans (e2.trans e3)) r3) q)
end Dp
namespace L2
open PySem PySem.Spec PyProof.Rows
variable{X:Cx}{pins:List (Addr×Obj)}{σ:St}{H:Hp}{s:Shared}
def yC(K:Frag)(neg:Bool):R2:=fun x y H Q=>∃ d ds,Rep K H d x/\Rep K H (.lst ds) y/\d.pl=true/\DV.pls ds=true/\DV.dps ds<=60/\∀ b,(b=true↔d∈ds)->Q (.bl (if neg then !b else b)) H
theorem oF{K:Frag}:∀{ds:List DV} {vs:List V} {us:List Value},Reps K H ds vs->Vals vs us->DV.pls ds=true->DV.dps ds<=60->(∀ w∈us,∃ di∈ds,∃ xi,Rep K H di xi/\RelV xi w/\di.pl=true/\di.dp<=60)/\∀ di∈ds,∃ w∈us,∃ xi,Rep K H di xi/\RelV xi w
 | [],vs,us,h,r,_,_=>by
  unfold Reps at h;subst h;cases r;exact⟨fun w h=>absurd h au,fun w h=>absurd h au⟩
 | d::ds,vs,us,h,r,p,hd=>by
  unfold Reps at h;obtain⟨x,r',rfl,h1,h2⟩:=h;cases r with
  | cons rx rxs =>
   unfold DV.pls at p;rw [aC] at p;unfold DV.dps at hd;obtain⟨i1,i2⟩:=oF h2 rxs p.2 (by omega);refine⟨fun w hw=>?_,fun di hi=>?_⟩
   ·rcases ah.mp hw with e|e
    ·rw [e];exact⟨d,av,x,h1,rx,p.1,by omega⟩
    ·obtain⟨di,m,z⟩:=i1 w e;exact⟨di,ar _ m,z⟩
   ·rcases ah.mp hi with e|e
    ·rw [e];exact⟨_,av,x,h1,rx⟩
    ·obtain⟨w,m,z⟩:=i2 di e;exact⟨w,ar _ m,z⟩
open Classical in
theorem oW{K:Frag}{k:Nat}(hr:Room k X.A)(hK:X.K=K)(I:Inv X pins σ H s){d:DV}{ds:List DV}{x:V}{v:Value}{vs:List V}{us:List Value}(h1:Rep K H d x)(rx:RelV x v)(r1:Reps K H ds vs)(rv:Vals vs us)(p1:d.pl=true)(p2:DV.pls ds=true)(hd:DV.dps ds<=60) :
  ∃ e:Value->Bool,(∀ w∈us,SeqAt.EqAt X.A.in1 s w v (e w))/\(us.any e=true↔d∈ds):=by
 subst hK;obtain⟨i1,i2⟩:=oF r1 rv p2 hd;have hun:=hr.units;have key:∀ w∈us,∀ di∈ds,∀ xi,Rep X.K H di xi->RelV xi w->(decide (∃ xi,RelV xi w/\Rep X.K H d xi)=true↔di=d):=fun w hw di hi xi hx rw'=>by
  rw [decide_eq_true_iff];constructor
  ·rintro⟨x',r',h'⟩;rw [RelV.inj r' rw'] at h';exact Rep.inj I hx h'
  ·rintro rfl;exact⟨xi,rw',hx⟩
 refine⟨fun w=>decide (∃ xi,RelV xi w/\Rep X.K H d xi),fun w hw=>?_,?_⟩
 ·obtain⟨di,hi,xi,hx,rw',pi,dpi⟩:=i1 w hw;obtain⟨b,hb,ib⟩:=C3 I di d X.A.in1 hx h1 rw' rx pi p1 (by show X.A.units+1+_+1<_;omega);have:decide (∃ xi,RelV xi w/\Rep X.K H d xi)=b:=bf.mpr ((key w hw di hi xi hx rw').trans ib.symm);dsimp only;rw [this];exact hb
 ·rw [cr];constructor
  ·rintro⟨w,hw,he⟩;obtain⟨di,hi,xi,hx,rw',_,_⟩:=i1 w hw;exact (key w hw di hi xi hx rw').mp he ▸ hi
  ·intro hm;obtain⟨w,hw,xi,hx,rw'⟩:=i2 d hm;exact⟨w,hw,(key w hw d hm xi hx rw').mpr rfl⟩
theorem yR(K:Frag){k:Nat}(hr:Room k X.A)(hK:X.K=K:=by rfl):OpR X (compareOp .In) (yC K false):=by
 intro pins s σ H x y u v Q I rx ry h;obtain⟨d,ds,h1,h2,p1,p2,hd,q⟩:=h;unfold Rep at h2;obtain⟨a,vs,rfl,t1,r1⟩:=h2;cases ry;subst hK;obtain⟨its,rv,p,_⟩:=I.list t1;obtain⟨e,he,hi⟩:=oW hr rfl I h1 rx r1 rv p1 p2 hd;refine SeqAt.in_listAt e p.isList (fun w hw=>he w (by simpa using hw)) ⟨.bl _,H,I,rfl,?_⟩;rw [show its.toArray.any e=its.any e by simp];exact q _ hi
theorem sq(K:Frag){k:Nat}(hr:Room k X.A)(hK:X.K=K:=by rfl):OpR X (compareOp .NotIn) (yC K true):=by
 intro pins s σ H x y u v Q I rx ry h;obtain⟨d,ds,h1,h2,p1,p2,hd,q⟩:=h;unfold Rep at h2;obtain⟨a,vs,rfl,t1,r1⟩:=h2;cases ry;subst hK;obtain⟨its,rv,p,_⟩:=I.list t1;obtain⟨e,he,hi⟩:=oW hr rfl I h1 rx r1 rv p1 p2 hd;refine SeqAt.notIn_listAt e p.isList (fun w hw=>he w (by simpa using hw)) ⟨.bl _,H,I,rfl,?_⟩;rw [show its.toArray.any e=its.any e by simp];exact q _ hi
end L2
namespace L2
open PySem PySem.Spec PyProof.Rows
section
variable{κ:Type}[DecidableEq κ]
def lA(kvs:List (κ×V))(k:κ):Option V:=(kvs.find? fun kv=>decide (kv.1=k)).map (·.2)
def kM(kvs:List (κ×V))(k:κ)(v:V):List (κ×V) :=
 if (kvs.any fun kv=>decide (kv.1=k))=true then kvs.map (fun kv=>if kv.1=k then (kv.1,v) else kv) else kvs++[(k,v)]
theorem kG{p:κ×V}{r:List (κ×V)}{k:κ}(e:p.1=k):lA (p::r) k=some p.2:=by simp [lA,bu,e]
theorem kH{p:κ×V}{r:List (κ×V)}{k:κ}(e:¬ p.1=k):lA (p::r) k=lA r k:=by simp [lA,bu,e]
theorem kI(k:κ):∀ kvs:List (κ×V),(kvs.any fun kv=>decide (kv.1=k))=(lA kvs k).isSome
 | []=>rfl
 | p::r=>by
  rw [bn];by_cases e:p.1=k
  ·simp only [kG e,decide_eq_true e,Bool.true_or,cI]
  ·rw [kH e,decide_eq_false e,Bool.false_or];exact kI k r
theorem lv(kvs:List (κ×V))(k:κ)(v:V):(kM kvs k v).length<=kvs.length+1:=by
 unfold kM;split
 ·rw [aj];omega
 ·rw [aB,aJ,List.length_nil];omega
theorem RelO.isSome_eq{o:Option V}{u:Option Value}(r:RelO o u):o.isSome=u.isSome:=by
 cases o with
 | none=>cases u with
  | none=>rfl
  | some _=>exact (show False from r).elim
 | some _=>cases u with
  | none=>exact (show False from r).elim
  | some _=>rfl
theorem KV.val{kvs:List (κ×V)}{vs:List (κ×Value)}(r:KV kvs vs)(k:κ):RelO (lA kvs k) (valueAt vs k):=by
 unfold KV at r;induction r with
 | nil=>exact True.intro
 | @cons p q ps qs h t ih =>
  obtain⟨h1,h2⟩:=h;by_cases e:p.1=k
  ·have e':q.1=k:=h1.symm.trans e;have b:valueAt (q::qs) k=some q.2:=by simp [valueAt,bu,e']
   rw [kG e,b];exact h2
  ·have e':¬ q.1=k:=fun z=>e (h1.trans z);have b:valueAt (q::qs) k=valueAt qs k:=by simp [valueAt,bu,e']
   rw [kH e,b];exact ih
theorem KV.any{kvs:List (κ×V)}{vs:List (κ×Value)}(r:KV kvs vs)(k:κ):(kvs.any fun kv=>decide (kv.1=k))=vs.any fun kv=>decide (kv.1=k):=by
 unfold KV at r;induction r with
 | nil=>rfl
 | cons h t ih=>rw [bn,bn,ih,h.1]
theorem KV.repl{kvs:List (κ×V)}{vs:List (κ×Value)}(r:KV kvs vs)(k:κ){y:V}{u:Value}(ry:RelV y u) :
  KV (kvs.map fun kv=>if kv.1=k then (kv.1,y) else kv) (vs.map fun kv=>if kv.1=k then (kv.1,u) else kv):=by
 unfold KV at r ⊢;induction r with
 | nil=>exact .nil
 | @cons p q ps qs h t ih =>
  rw [aH,aH];refine .cons ?_ ih;obtain⟨h1,h2⟩:=h;by_cases e:p.1=k
  ·rw [if_pos e,if_pos (h1.symm.trans e)];exact⟨h1,ry⟩
  ·rw [if_neg e,if_neg (fun z=>e (h1.trans z))];exact⟨h1,h2⟩
theorem KV.put{kvs:List (κ×V)}{vs:List (κ×Value)}(r:KV kvs vs)(k:κ){y:V}{u:Value}(ry:RelV y u):KV (kM kvs k y) (stored vs k u):=by
 unfold kM stored;rw [r.any k];by_cases e:(vs.any fun kv=>decide (kv.1=k))=true
 ·rw [if_pos e,if_pos e];exact r.repl k ry
 ·rw [if_neg e,if_neg e];exact Paired.snoc r ⟨rfl,ry⟩
theorem KV.length{kvs:List (κ×V)}{vs:List (κ×Value)}(r:KV kvs vs):kvs.length=vs.length:=Paired.length r
end
theorem re{P:Program}{w:World}{k:jb}{u:Value}(r:RelV (kV k) u):(i8 P w).is k u=true:=by
 cases k with
 | inl i=>obtain⟨t,e⟩:=(show ∃ t,u=Value.int i t from r);subst e;exact oQ P w i t
 | inr x=>obtain⟨t,e⟩:=(show ∃ t,u=Value.str x t from r);subst e;exact oP P w x t
theorem mZ{P:Program}{w:World}:∀{ks:List jb} {us:List Value},Vals (ks.map kV) us->ItemsAre (i8 P w) ks us
 | [],_,r=>by rw [List.map_nil] at r;cases r;exact .nil
 | k::ks,_,r=>by
  rw [aH] at r;cases r with
  | cons h t=>exact .cons (re h) (mZ t)
abbrev KT(H:Hp):List (List jb×V)->List (List jb×Addr×Value)->Prop:=Paired fun p q=>p.1=q.1/\H q.2.1=some (.tup (p.1.map kV))/\RelV p.2 q.2.2
theorem KT.val{H:Hp}{kvs:List (List jb×V)}{xs:List (List jb×Addr×Value)}(r:KT H kvs xs)(k:List jb):RelO (lA kvs k) ((atKey xs k).map (·.2)):=by
 induction r with
 | nil=>exact True.intro
 | @cons p q ps qs h t ih =>
  obtain⟨h1,_,h2⟩:=h;by_cases e:p.1=k
  ·have e':q.1=k:=h1.symm.trans e;have b:atKey (q::qs) k=some q.2:=by simp [atKey,bu,e']
   rw [kG e,b];exact h2
  ·have e':¬ q.1=k:=fun z=>e (h1.trans z);have b:atKey (q::qs) k=atKey qs k:=by simp [atKey,bu,e']
   rw [kH e,b];exact ih
theorem KT.repl{H:Hp}{kvs:List (List jb×V)}{xs:List (List jb×Addr×Value)}(r:KT H kvs xs)(k:List jb){y:V}{u:Value}(ry:RelV y u) :
  KT H (kvs.map fun kv=>if kv.1=k then (kv.1,y) else kv) (xs.map (putAt k u)):=by
 induction r with
 | nil=>exact .nil
 | @cons p q ps qs h t ih =>
  rw [aH,aH];refine .cons ?_ ih;obtain⟨h1,h2,h3⟩:=h;unfold putAt;by_cases e:p.1=k
  ·rw [if_pos e,if_pos (h1.symm.trans e)];exact⟨h1,h2,ry⟩
  ·rw [if_neg e,if_neg (fun z=>e (h1.trans z))];exact⟨h1,h2,h3⟩
theorem KT.put{H:Hp}{kvs:List (List jb×V)}{xs:List (List jb×Addr×Value)}(r:KT H kvs xs)(k:List jb){b:Addr}{y:V}{u:Value}(hb:H b=some (.tup (k.map kV)))(ry:RelV y u) :
  KT H (kM kvs k y) (storedH xs k b u):=by
 have e:(kvs.any fun kv=>decide (kv.1=k))=(atKey xs k).isSome:=by
  rw [kI,(r.val k).isSome_eq,b9]
 unfold kM storedH;rw [e];by_cases q:(atKey xs k).isSome=true
 ·rw [if_pos q,if_pos q];exact r.repl k ry
 ·rw [if_neg q,if_neg q];exact Paired.snoc r ⟨rfl,hb,ry⟩
theorem KT.keeps{H H':Hp}{kvs:List (List jb×V)}{xs:List (List jb×Addr×Value)}(r:KT H kvs xs)(ht:∀ b ys,H b=some (.tup ys)->H' b=some (.tup ys)):KT H' kvs xs :=
 Paired.mapP r fun _ _ z=>⟨z.1,ht _ _ z.2.1,z.2.2⟩
section
variable{P:Program}{w:World}{H:Hp}{h:Heap}{a:Addr}
theorem xB{u:HO}(ok:HOk P w H h)(e:Rd H a u):ObjOk P w H h a u:=e.ok ok
theorem rJ{kvs:List (jb×V)}(ok:HOk P w H h)(e:Rd H a (.dK kvs)):kvs.length<=sizeLine/\(a == sysModules)=false/\∃ vs,KV kvs vs/\h.DictOf (i8 P w) a vs :=
 show ObjOk P w H h a (.dK kvs) from xB ok e
theorem nh{kvs:List (jb×V)}(ok:HOk P w H h)(e:H a=some (.dK kvs)):kvs.length<=sizeLine/\(a == sysModules)=false/\∃ vs,KV kvs vs/\h.DictOf (i8 P w) a vs:=rJ ok (.inl e)
theorem nU{ks:List jb}(ok:HOk P w H h)(e:H a=some (.tup (ks.map kV))):(tupleKind (i8 P w)).is h ks a:=by
 obtain⟨_,its,r,o,h1,h2,n,h3⟩:=(show ObjOk P w H h a (.tup (ks.map kV)) from ok a _ e);exact⟨o,its.toArray,n,h1,h2,h3,by simpa using mZ r⟩
theorem rH{kvs:List (List jb×V)}(ok:HOk P w H h)(e:Rd H a (.dT kvs)):kvs.length<=sizeLine/\(a == sysModules)=false /\
  ∃ xs,KT H kvs xs/\h.DictOfH (tupleKind (i8 P w)) a xs:=by
 obtain⟨z,y,xs,r,o,es,ep,h1,h2,h3,h4,h5⟩:=(show ObjOk P w H h a (.dT kvs) from xB ok e);refine⟨z,y,xs,r,o,es,ep,h1,h2,h3,h4,fun x hx=>?_,h5⟩;have all:∀{l:List (List jb×V)} {m:List (List jb×Addr×Value)},KT H l m->∀ x∈m,(tupleKind (i8 P w)).is h x.1 x.2.1:=by
  intro l m q;induction q with
  | nil=>intro x hx;exact nomatch hx
  | @cons p q ps qs hq t ih =>
   intro x hx;rcases ah.mp hx with e|hx
   ·subst e;exact nU ok (by rw [← hq.1];exact hq.2.1)
   ·exact ih x hx
 exact all r x hx
theorem Bd{kvs:List (List jb×V)}(ok:HOk P w H h)(e:H a=some (.dT kvs)):kvs.length<=sizeLine/\(a == sysModules)=false /\
  ∃ xs,KT H kvs xs/\h.DictOfH (tupleKind (i8 P w)) a xs:=rH ok (.inl e)
end
def zN(H:Hp)(a:Addr)(y:V)(r:Option V):Prop :=
 (∃ kvs k,Rd H a (.dK kvs)/\y=kV k/\r=lA kvs k)\/∃ kvs k b,Rd H a (.dT kvs)/\y = .ref b/\H b=some (.tup (k.map kV))/\r=lA kvs k
def Bw(H:Hp)(a:Addr)(y v:V)(H':Hp):Prop :=
 (∃ kvs k,H a=some (.dK kvs)/\y=kV k/\kvs.length<sizeLine/\H'=i6 H a (.dK (kM kvs k v))) \/
 ∃ kvs k b,H a=some (.dT kvs)/\y = .ref b/\H b=some (.tup (k.map kV))/\kvs.length<sizeLine/\H'=i6 H a (.dT (kM kvs k v))
section
variable{X:Cx}{pins:List (Addr×Obj)}{σ:St}{H:Hp}{s:Shared}{a:Addr}{y v:V}{u r:Value}{o:Option V}{A:Around}{E:Value->Shared->Prop}
theorem Inv.bigD(I:Inv X pins σ H s):sysModules<s.heap.objs.size:=by
 have h:mainGlobals<s.heap.objs.size:=(I.mod.glob.keeps I.bk).lt;exact Nat.lt_trans (by decide) h
theorem CA{Q:Value->Shared->Prop}(hu:A.units+1<cLine)(I:Inv X pins σ H s)(g:zN H a y o)(ry:RelV y u)(h:∀ s',Inv X pins σ H s'->Q (.bool o.isSome) s') :
  wpAny (model X.prog X.w) A (compareOp .In u (.ref a)) Q E s:=by
 rcases g with⟨kvs,k,e,ey,l⟩|⟨kvs,k,b,e,ey,eb,l⟩
 ·subst ey;obtain⟨z,hd,vs,rel,dd⟩:=rJ I.hok e;refine wpAny_in_of (re ry) hd dd.mapOf ?_;rw [← (rel.val k).isSome_eq,← l];exact h _ (I.tok _)
 ·subst ey;cases (show u=Value.ref b from ry);obtain⟨z,hd,xs,rel,dd⟩:=rH I.hok e;refine wpAny_in_heap (tupleKind_room_in1 hu) (nU I.hok eb) hd dd ?_;have q:=(rel.val k).isSome_eq;rw [b9] at q;rw [← q,← l];exact h _ (I.tok _)
theorem wY{Q:Value->Shared->Prop}(hu:A.units+1<cLine)(I:Inv X pins σ H s)(g:zN H a y o)(ry:RelV y u)(h:∀ s',Inv X pins σ H s'->Q (.bool (!o.isSome)) s') :
  wpAny (model X.prog X.w) A (compareOp .NotIn u (.ref a)) Q E s:=by
 rcases g with⟨kvs,k,e,ey,l⟩|⟨kvs,k,b,e,ey,eb,l⟩
 ·subst ey;obtain⟨z,hd,vs,rel,dd⟩:=rJ I.hok e;refine wpAny_notIn_of (re ry) hd dd.mapOf ?_;rw [← (rel.val k).isSome_eq,← l];exact h _ (I.tok _)
 ·subst ey;cases (show u=Value.ref b from ry);obtain⟨z,hd,xs,rel,dd⟩:=rH I.hok e;refine wpAny_notIn_heap (tupleKind_room_in1 hu) (nU I.hok eb) hd dd ?_;have q:=(rel.val k).isSome_eq;rw [b9] at q;rw [← q,← l];exact h _ (I.tok _)
theorem n4{h':Heap}{t':Nat}{ob:HO}(I:Inv X pins σ H s)(mu:Bt (H a))(hs:Heap.SameBut a s.heap h')(he:∃ q,h'.get? a=some q)(new:ObjOk X.prog X.w (i6 H a ob) h' a ob) :
  Inv X pins σ (i6 H a ob) { s with heap:=h',toks:=t' } :=
 I.write (x:=a) (e:=a) mu (.inl rfl) (fun b q hb z=>(hs.2 b hb).trans z) he new
theorem u5{P:Program}{w:World}{H':Hp}{h':Heap}{kvs:List (jb×V)}{vs:List (jb×Value)}(z:kvs.length<=sizeLine)(hd:(a == sysModules)=false)(rel:KV kvs vs)(dd:h'.DictOf (i8 P w) a vs) :
  ObjOk P w H' h' a (.dK kvs):=⟨z,hd,vs,rel,dd⟩
theorem sY{H':Hp}{Q:Unit->Shared->Prop}(hu:A.units+1<cLine)(I:Inv X pins σ H s)(g:Bw H a y v H')(ry:RelV y u)(rv:RelV v r)(h:∀ s',Inv X pins σ H' s'->Q () s') :
  wpAny (model X.prog X.w) A (setItem (.ref a) u r) Q E s:=by
 rcases g with⟨kvs,k,e,ey,l,eH⟩|⟨kvs,k,b,e,ey,eb,l,eH⟩
 ·subst ey eH;obtain⟨z,hd,vs,rel,dd⟩:=nh I.hok e;have hz:vs.length<=sizeLine:=by rw [← rel.length];exact z
  have hl:(kM kvs k v).length<=sizeLine:=by have:=lv kvs k v;omega
  refine wpAny_setItem_pairs (hsz:=hz) (re ry) dd fun h' dd' hs=>h _ ?_;have he:∃ q,h'.get? a=some q:=let ⟨q,_,_,hq,_⟩:=dd';⟨q,hq⟩;exact n4 I (by rw [e];exact True.intro) hs he (u5 hl hd (rel.put k rv) dd')
 ·subst ey eH;cases (show u=Value.ref b from ry);obtain⟨z,hd,xs,rel,dd⟩:=Bd I.hok e;have hz:xs.length<=sizeLine:=by rw [← Paired.length rel];exact z
  have hl:(kM kvs k v).length<=sizeLine:=by have:=lv kvs k v;omega
  refine wpAny_setItem_heap (hsz:=hz) (tupleKind_room_in1 hu) (nU I.hok eb) dd fun h' dd' hs=>h _ ?_;obtain⟨q,es,ep,hq,h2,h3,h4,_,h5⟩:=dd';refine n4 I (by rw [e];exact True.intro) hs ⟨q,hq⟩ ⟨hl,hd,_,(rel.put k eb rv).keeps fun c ys ec=>?_,q,es,ep,hq,h2,h3,h4,h5⟩;rw [iT (xL ec e (fun z=>nomatch z))];exact ec
end
section
variable{X:Cx}{pins:List (Addr×Obj)}{σ:St}{H:Hp}{s:Shared}{a:Addr}{kvs:List (jb×V)}{k:jb}{u:Value}{A:Around}{E:Value->Shared->Prop}
theorem wZ{Q:Value->Shared->Prop}(I:Inv X pins σ H s)(e:H a=some (.dK kvs))(h:∀ s',Inv X pins σ (i6 H a (.dK [])) s'->Q .none s'):wpAny (model X.prog X.w) A (call (.builtin "dict.clear") [.ref a]) Q E s:=by
 obtain⟨z,hd,vs,rel,dd⟩:=nh I.hok e;refine call_meetsIn PySem.F.slot_dict_clear dd.typeIs PySem.F.entry_dict_clear (PySem.F.args_dict_clear_1 _) (meets_dict_clear (i8 X.prog X.w) a) ⟨vs,dd,by rw [← rel.length];exact z,fun h' dd' hs=>h _ ?_⟩;have he:∃ q,h'.get? a=some q:=let ⟨q,_,_,hq,_⟩:=dd';⟨q,hq⟩;exact n4 (t':=s.toks) I (by rw [e];exact True.intro) hs he (u5 (aS _) hd .nil dd')
end
def At(td ty tv:TE):TS:=fun D σ H=>tv σ H fun v H1=>td σ H1 fun x H2=>ty σ H2 fun y H3=>∃ a H4,x = .ref a/\Bw H3 a y v H4/\D.nx σ H4
section
variable{X:Cx}{o i e value:Expr}{pos pos' tpos:Pos}{td ty tv:TE}
theorem vY(hu:X.A.units+1<cLine)(ho:PE X o td)(hi:PE X i ty)(hv:PE X value tv)(hs:swapsWith value (some (.Subscript o i pos')) pos.line X.env=pure false) :
  PS X (.Assign [.Subscript o i pos'] value pos) (At td ty tv):=by
 intro pins s σ H D I h;refine wpAny_Assign_Subscript (ja (hv pins s σ H _ I h) fun r s1 ⟨v,H1,I1,rv,q1⟩=>ja (ho pins s1 σ H1 _ I1 q1) fun u s2 ⟨x,H2,I2,rx,q2⟩=>ja (hi pins s2 σ H2 _ I2 q2) fun iv s3 ⟨y,H3,I3,ry,a,H4,ex,g,q3⟩=>?_) hs;subst ex;obtain rfl:u=Value.ref a:=rx;exact sY hu I3 g ry rv fun s4 I4=>⟨σ,H4,I4,q3⟩
end
theorem u6{P:Program}{w:World}{H:Hp}(h:Heap)(hb:sysModules<h.objs.size):ObjOk P w H (h.push { cls:=.type "dict",data:=.dict #[] }) h.objs.size (.dK []) :=
 ⟨aS _,beq_eq_false_iff_ne.mpr (Ne.symm (aD hb)),[],.nil,Heap.DictOf.new h⟩
def yi:TE:=fun _ H Q=>∀ p,H p=none->Q (.ref p) (i6 H p (.dK []))
section
variable{X:Cx}{pos:Pos}
theorem uf:PE X (.Dict [] [] pos) yi:=fun pins s σ H Q I h =>
 wpAny_Dict_empty ⟨.ref s.heap.objs.size,_,I.laid (a:=s.heap.objs.size) (o:=.dK []) (t':=s.toks) (fun _ _ q=>Heap.get?_push_of_some _ q) (ai _) (u6 s.heap I.bigD),rfl,h _ (I.hok.fresh (ai _))⟩
end
def DD(H:Hp)(a:Addr):Prop:=(∃ kvs,Rd H a (.dK kvs))\/∃ kvs,Rd H a (.dT kvs)
theorem uP{X:Cx}{pins:List (Addr×Obj)}{σ:St}{H:Hp}{s:Shared}{a:Addr}(I:Inv X pins σ H s)(d:DD H a) :
  s.TypeIs (.ref a) "dict" /\ (∀ b,Value.ref a = .ref b->∃ ob,s.heap.get? b=some ob/\ob.dict=none)/\(a == sysModules)=false:=by
 rcases d with⟨kvs,e⟩|⟨kvs,e⟩
 ·obtain⟨_,hd,vs,_,dd⟩:=rJ I.hok e;refine⟨dd.typeIs,fun b q=>?_,hd⟩;cases q;obtain⟨ob,_,_,h1,h2,_⟩:=dd;exact⟨ob,h1,h2.2.1⟩
 ·obtain⟨_,hd,xs,_,dd⟩:=rH I.hok e;refine⟨dd.typeIs,fun b q=>?_,hd⟩;cases q;obtain⟨ob,_,_,h1,h2,_⟩:=dd;exact⟨ob,h1,h2.2.1⟩
end L2
namespace L2
open PySem PySem.Spec PyProof.Rows
section
variable{X:Cx}{o:Expr}{apos cpos p pos:Pos}{td:TE}{pins:List (Addr×Obj)}{σ:St}{H:Hp}{s:Shared}
def Am(td:TE):TE:=fun σ H Q=>td σ H fun x H1=>∃ a kvs,x = .ref a/\H1 a=some (.dK kvs)/\Q .non (i6 H1 a (.dK []))
theorem v9(ho:PE X o td)(hb:attributeBase o "clear" X.env (eval o X.env)=eval o X.env)(hl:(apos.endLine == cpos.line)=true):PE X (.Call (.Attribute o "clear" apos) [] [] cpos) (Am td):=by
 intro pins s σ H Q I h;refine wpAny_Call_method0_late hb hl (ja (ho pins s σ H _ I h) fun v s1 ⟨x,H1,I1,r1,a,kvs,ex,e,q1⟩=>?_);subst ex;obtain rfl:v=Value.ref a:=r1;obtain⟨t1,t2,_⟩:=uP I1 (.inl ⟨_,.inl e⟩);exact⟨"dict", "dict.clear",PySem.F.plainAttrs_dict,PySem.F.slot_dict_clear,PySem.F.type_dict_clear,t1,t2,Calls.callWith_builtin rfl (PySem.evalArgs_none (wZ I1 e fun s' I'=>⟨.non,_,I',rfl,q1⟩))⟩
def mD(r a:Addr):HO:=.ext fun h=>h.IsItemsView r a
def Ae(td:TE):TE:=fun σ H Q=>td σ H fun x H1=>∃ a kvs,x = .ref a/\H1 a=some (.dK kvs)/\∀ r,H1 r=none->Q (.ref r) (i6 H1 r (mD r a))
theorem v7(ho:PE X o td)(hb:attributeBase o "items" X.env (eval o X.env)=eval o X.env)(hl:(apos.endLine == cpos.line)=true):PE X (.Call (.Attribute o "items" apos) [] [] cpos) (Ae td):=by
 intro pins s σ H Q I h;refine wpAny_Call_method0_late hb hl (ja (ho pins s σ H _ I h) fun v s1 ⟨x,H1,I1,r1,a,kvs,ex,e,q1⟩=>?_);subst ex;obtain rfl:v=Value.ref a:=r1;obtain⟨t1,t2,hd⟩:=uP I1 (.inl ⟨_,.inl e⟩);obtain⟨z,_,vs,rel,dd⟩:=nh I1.hok e;refine⟨"dict", "dict.items",PySem.F.plainAttrs_dict,PySem.F.slot_dict_items,PySem.F.type_dict_items,t1,t2,Calls.callWith_builtin rfl (PySem.evalArgs_none ?_)⟩;refine call_meetsIn PySem.F.slot_dict_items dd.typeIs PySem.F.entry_dict_items (PySem.F.args_dict_items_1 _) (meets_dict_items (i8 X.prog X.w) a hd) ⟨⟨vs,dd⟩,?_⟩;have hv:(s1.heap.push { cls:=.type "dict_items",data:=.fields #[.ref a] }).get? s1.heap.objs.size=some { cls:=.type "dict_items",data:=.fields #[.ref a] }:=Heap.get?_push_size _ rfl;refine⟨.ref s1.heap.objs.size,_,I1.laid (t':=s1.toks) (fun b u q=>Heap.get?_push_of_some _ q) (ai _) ?_,rfl,q1 _ I1.fresh⟩;exact⟨⟨_,hv,rfl,rfl⟩,⟨_,hv⟩,fun h1 h2 ⟨ob,g1,g2⟩ k=>⟨ob,k _ g1,g2⟩⟩
theorem AX{P:Program}{w:World}{k:jb}{u:Value}(h:(i8 P w).is k u=true):RelV (kV k) u:=by
 have h:lw k u=true:=h;cases k <;> cases u <;> simp [lw,Value.isInt,Value.isStrOf] at h;all_goals (subst h;exact⟨_,rfl⟩)
structure Laid (H1 H2:Hp)(q:Addr)(as:List Addr)(kvs:List (jb×V)):Prop where
 new:∀ b∈q::as,H1 b=none
 old:∀ b,b ∉ q::as->H2 b=H1 b
 len:as.length=kvs.length
 lst:H2 q=some (.lst (as.map V.ref))
 tup:∀(j:Nat) (b:Addr) (kv:jb×V),as[j]? = some b->kvs[j]? = some kv->H2 b=some (.tup [kV kv.1,kv.2])
theorem qA(hh:X.A.handled=none):CallR X (.type "list") (fun xs H Q=>∃ r a kvs,xs=[.ref r]/\H r=some (mD r a)/\H a=some (.dK kvs)/\∀ q as H2,Laid H H2 q as kvs->Q (.ref q) H2):=by
 intro pins s σ H xs us Q I rv h;obtain⟨r,a,kvs,rfl,hr,ha,q⟩:=h;obtain⟨u,rfl,ru⟩:=Vals.one rv;cases (show u=Value.ref r from ru);obtain⟨z,hd,vs,rel,dd⟩:=nh I.hok ha;obtain⟨hv,_⟩:=(show ObjOk X.prog X.w H s.heap r (mD r a) from I.hok r _ hr);obtain⟨o,es,ep,d1,d2,d3,d4,d5,d6⟩:=dd;refine PySem.W.kdx_call (knd:=i8 X.prog X.w) (kvs:=vs) (ep:=ep) hh hv ⟨o,es,d1,d2,d3,d4,d5,d6⟩ (by rw [← rel.length];exact z) fun h' tk acc c as hk hS hl hG hacc=>?_;have fr:∀ b∈s.heap.objs.size::as,s.heap.objs.size<=b:=fun b hb=>by
  rcases ah.mp hb with rfl|hb
  ·exact ai _
  ·exact a6 (hG.above b hb)
 have ns:s.heap.objs.size ∉ as:=fun z=>aN _ (hG.above _ z)
 -- where an address stands among the tuples
 let ix:Addr->Option Nat:=fun b=>as.findIdx? fun c=>c == b
 let H2:Hp:=fun b=>if b=s.heap.objs.size then some (.lst (as.map V.ref)) else match as.findIdx? (fun c=>c == b) with
  | some j=>(kvs[j]?).map fun kv=>.tup [kV kv.1,kv.2]
  | none=>H b
 have hlen:as.length=kvs.length:=by rw [hl,rel.length]
 have nd:as.Nodup:=hG.rise.imp fun h=>aD h;have at_:∀(j:Nat) (b:Addr),as[j]? = some b->as.findIdx? (fun c=>c == b)=some j:=fun j b e=>by
  obtain⟨hj,e⟩:=aq.mp e;refine List.findIdx?_eq_some_iff_getElem.mpr ⟨hj,by rw [e];exact beq_self_eq_true b,fun i hi=>?_⟩;have:=cA.mp nd i j (by omega) hj hi;rw [e] at this;simpa using this
 have L:Laid H H2 s.heap.objs.size as kvs:=by
  refine⟨fun b hb=>I.hok.fresh (fr b hb),fun b hb=>?_,hlen,?_,fun j b kv e ek=>?_⟩
  ·show (if b=_ then _ else _)=_;rw [if_neg fun (e:b=s.heap.objs.size)=>hb (e ▸ av)];have:as.findIdx? (fun c=>c == b)=none:=by
    rw [List.findIdx?_eq_none_iff];intro c hc;simp;rintro rfl;exact hb (ar _ hc)
   rw [this]
  ·show (if _=_ then _ else _)=_;rw [if_pos rfl]
  ·show (if b=_ then _ else _)=_;have:b≠s.heap.objs.size:=fun z=>ns (z ▸ aF e);rw [if_neg this,at_ j b e];show (kvs[j]?).map _=_;rw [ek];rfl
 have hU:∀ b,s.heap.objs.size > b->H2 b=H b:=fun b hb=>L.old b fun z=>by have:=fr b z;omega
 have tr:∀ b o,H b=some o->H2 b=some o:=fun b o e=>by rw [L.old b fun z=>by rw [L.new b z] at e;cases e];exact e
 refine⟨.ref s.heap.objs.size,H2,I.un (t':=tk) ⟨fun b u q _ _ _=>hk b u q,fun b u q _ _ _=>⟨u.slots,hk b u q⟩,fun b u q n _=>by rw [hU b (Heap.lt_size q)];exact n,fun b u q _=>⟨u,hk b u q⟩,fun b xs q=>tr b _ q,fun b o u q=>tr b _ q,fun b ps q=>⟨#[],by rw [tr b _ q];simp⟩⟩ ?_,rfl,q _ as H2 L⟩;intro b ob e;by_cases hb:b∈s.heap.objs.size::as
 ·rcases ah.mp hb with rfl|hb
  ·rw [L.lst] at e;cases e;refine⟨by rw [aj,hlen];exact z,as.map Value.ref,c,?_,?_⟩
   ·have:∀ l:List Addr,Vals (l.map V.ref) (l.map Value.ref):=fun l=>by
     induction l with
     | nil=>exact .nil
     | cons a l ih=>exact .cons rfl ih
    exact this as
   ·rw [← hacc];exact hS
  ·obtain⟨j,hj,ej⟩:=bM hb;have ej:as[j]? = some b:=by rw [aw hj,ej]
   obtain⟨key,k,x,g1,g2,g3⟩:=hG.pairs j b ej;obtain⟨kv,ek⟩:∃ kv,kvs[j]? = some kv:=⟨kvs[j]'(by omega),aw (by omega)⟩;rw [L.tup j b kv ej ek] at e;cases e;have pr:=KV.at rel ek;obtain⟨q',w1,w3⟩:=pr;rw [g1] at w1;cases w1;refine⟨by show 2<=sizeLine;rw [sizeLine_eq];decide,[key,x],.cons ?_ (.cons w3 .nil),?_⟩
   ·exact AX g2
   ·exact⟨_,g3,rfl,_,rfl⟩
 ·rw [L.old b hb] at e;have x:=(I.hok b ob e).stay (H':=H2) (fun c u _ q=>hk c u q) (fun c q=>tr c _ q) (fun c _ q=>tr c _ q);exact x
theorem oy:∀{kvs:List (jb×V)} {kv:jb×V},(kvs.map (·.1)).Nodup->kv∈kvs->lA kvs kv.1=some kv.2
 | p::r,kv,nd,h=>by
  rw [aH,bt] at nd;rcases ah.mp h with rfl|h
  ·exact kG rfl
  ·rw [kH fun (e:p.1=kv.1)=>nd.1 (e ▸ bg.mpr ⟨kv,h,rfl⟩)];exact oy nd.2 h
theorem rD{A:Around}{vb:List (jb×Value)}:∀{kvs:List (jb×V)} {vs:List (jb×Value)},KV kvs vs->(∀ kv∈kvs,∃ n t,kv.2 = .int n/\valueAt vb kv.1=some (Value.int n t))->PySem.W.KeqHits A s vb vs true
 | _,_,.nil,_=>.nil
 | p::_,q::_,.cons r t,h=>by
  obtain⟨n,tk,e1,e2⟩:=h p av;obtain⟨r1,r2⟩:=r;rw [e1] at r2;obtain⟨t',e3⟩:=(show ∃ t,q.2=Value.int n t from r2);have ih:=rD (A:=A) t fun kv hkv=>h kv (ar _ hkv);have x:=PySem.W.KeqHits.hit (k:=q.1) (v:=q.2) (r1 ▸ e2) (by rw [e3];exact PySem.W.keq_flat (A:=A) (s:=s) (fun _=>.int n t') (fun _=>.int n tk)) ih;rw [show (PyData.eqv (.int n) (.int n) && true)=true by simp [PyData.eqv]] at x;exact x
theorem wn(hu:X.A.units<cLine):OpR X (compareOp .Eq) (fun x y H Q=>∃ a b kvs,x = .ref a/\y = .ref b/\H a=some (.dK kvs)/\H b=some (.dK kvs)/\(∀ kv∈kvs,∃ n,kv.2 = .int n)/\Q (.bl true) H):=by
 intro pins s σ H x y v u Q I rx ry h;obtain⟨a,b,kvs,rfl,rfl,ha,hb,hn,q⟩:=h;cases (show v=Value.ref a from rx);cases (show u=Value.ref b from ry);obtain⟨_,hd,va,ra,da⟩:=nh I.hok ha;obtain⟨_,hd',vb,rb,db⟩:=nh I.hok hb;have nd:(kvs.map (·.1)).Nodup:=by
  rw [← rb.keys];obtain⟨_,_,_,_,_,_,_,_,nd⟩:=db;exact nd
 refine PySem.W.keq_eq (r:=true) hd hd' da db hu (fun _=>rD ra fun kv hkv=>?_) ?_
 ·obtain⟨n,e⟩:=hn kv hkv;have w:=rb.val kv.1;rw [oy nd hkv,e] at w;cases ev:valueAt vb kv.1 with
  | none=>rw [ev] at w;exact absurd w id
  | some z =>
   rw [ev] at w;obtain⟨t,e3⟩:=(show ∃ t,z=Value.int n t from w);exact⟨n,t,e,by rw [e3]⟩
 ·have e:(va.length == vb.length && true)=true:=by rw [← ra.length,← rb.length,beq_self_eq_true];rfl
  rw [e];exact⟨.bl true,H,I,rfl,q⟩
def yD(neg:Bool):R2:=fun x y H Q=>∃ a o,y = .ref a/\zN H a x o/\Q (.bl (if neg then !o.isSome else o.isSome)) H
theorem yS(hu:X.A.units+1<cLine):OpR X (compareOp .In) (yD false):=by
 intro pins s σ H x y v u Q I rx ry h;obtain⟨a,o,rfl,g,q⟩:=h;cases (show u=Value.ref a from ry);exact CA hu I g rx fun s' I'=>⟨.bl o.isSome,H,I',rfl,q⟩
theorem sv(hu:X.A.units+1<cLine):OpR X (compareOp .NotIn) (yD true):=by
 intro pins s σ H x y v u Q I rx ry h;obtain⟨a,o,rfl,g,q⟩:=h;cases (show u=Value.ref a from ry);exact wY hu I g rx fun s' I'=>⟨.bl (!o.isSome),H,I',rfl,q⟩
theorem ou{k:jb}:∀{ks:List jb} {us:List V},ks.length=us.length->(lA (ks.zip us) k).isSome=ks.any fun j=>decide (j=k)
 | [],us,_=>rfl
 | j::ks,[],h=>by cases h
 | j::ks,u::us,h=>by
  rw [← kI];show (decide (j=k) || (ks.zip us).any fun kv=>decide (kv.1=k))=(decide (j=k) || ks.any fun j=>decide (j=k));rw [kI,ou (Nat.succ.inj h)]
end
end L2
namespace Dp
open PySem L2
variable{K:Frag}{Jx:Hp->Prop}{f:Addr}{O O':List Addr}{H H':Hp}{X:Cx}{σ:St}{ss:SS}
mutual
def D.pl:D->Bool
 | .int _=>true | .str _=>true | .non=>true | .bl _=>false | .fl=>false | .exn _ _ _=>false | .dct _ _=>false | .fn _=>false
 | .tup ds=>D.pls ds
 | .lst ds=>D.pls ds
def D.pls:List D->Bool
 | []=>true
 | d::ds=>D.pl d && D.pls ds
end
mutual
def D.dp:D->Nat
 | .tup ds=>D.dps ds+1
 | .lst ds=>D.dps ds+1
 | .int _=>0 | .str _=>0 | .non=>0 | .bl _=>0 | .fl=>0 | .exn _ _ _=>0 | .dct _ _=>0 | .fn _=>0
def D.dps:List D->Nat
 | []=>0
 | d::ds=>max (D.dp d) (D.dps ds)
end
mutual
def D.dv:D->DV
 | .int i=>.int i | .str x=>.str x | .non=>.non | .bl b=>.bl b | .fl=>.non | .exn _ _ _=>.non | .dct _ _=>.non | .fn _=>.non
 | .tup ds=>.tup (D.dvs ds)
 | .lst ds=>.lst (D.dvs ds)
def D.dvs:List D->List DV
 | []=>[]
 | d::ds=>D.dv d::D.dvs ds
end
mutual
theorem D.dv_pl:∀{d:D},d.pl=true->d.dv.pl=true
 | .int _,_=>rfl
 | .str _,_=>rfl
 | .non,_=>rfl
 | .bl _,h=>h
 | .fl,h=>by cases h
 | .fn _,h=>by cases h
 | .exn _ _ _,h=>by cases h
 | .dct _ _,h=>by cases h
 | .tup ds,h=>D.dvs_pl (ds:=ds) h
 | .lst ds,h=>D.dvs_pl (ds:=ds) h
theorem D.dvs_pl:∀{ds:List D},D.pls ds=true->DV.pls (D.dvs ds)=true
 | [],_=>rfl
 | d::ds,h=>by
  have h:=ae.mp (show (d.pl && D.pls ds)=true from h);exact ae.mpr ⟨D.dv_pl h.1,D.dvs_pl h.2⟩
end
mutual
theorem D.dv_dp:∀{d:D},d.dv.dp=d.dp
 | .int _=>rfl
 | .str _=>rfl
 | .non=>rfl
 | .bl _=>rfl
 | .fl=>rfl
 | .fn _=>rfl
 | .exn _ _ _=>rfl
 | .dct _ _=>rfl
 | .tup ds=>congrArg (· + 1) (D.dvs_dp (ds:=ds))
 | .lst ds=>congrArg (· + 1) (D.dvs_dp (ds:=ds))
theorem D.dvs_dp:∀{ds:List D},DV.dps (D.dvs ds)=D.dps ds
 | []=>rfl
 | d::ds=>by
  show max (DV.dp d.dv) (DV.dps (D.dvs ds))=max d.dp (D.dps ds);rw [D.dv_dp,D.dvs_dp]
end
mutual
theorem D.dv_inj:∀{d e:D},d.pl=true->e.pl=true->d.dv=e.dv->d=e
 | .int _,e,_,h,q=>by cases e <;> first|(cases q;rfl)|(cases q;done)|cases h
 | .str _,e,_,h,q=>by cases e <;> first|(cases q;rfl)|(cases q;done)|cases h
 | .non,e,_,h,q=>by cases e <;> first|rfl|(cases q;done)|cases h
 | .bl _,_,h,_,_=>by cases h
 | .fl,_,h,_,_=>by cases h
 | .fn _,_,h,_,_=>by cases h
 | .exn _ _ _,_,h,_,_=>by cases h
 | .dct _ _,_,h,_,_=>by cases h
 | .tup ds,e,h1,h2,q=>by
  cases e with
  | tup es =>
   have q:DV.tup (D.dvs ds)=DV.tup (D.dvs es):=q;injection q with q;rw [D.dvs_inj h1 h2 q]
  | int=>cases q
  | str=>cases q
  | non=>cases q
  | bl=>cases h2
  | fl=>cases h2
  | exn=>cases h2
  | dct=>cases h2
  | fn=>cases h2
  | lst=>cases q
 | .lst ds,e,h1,h2,q=>by
  cases e with
  | lst es =>
   have q:DV.lst (D.dvs ds)=DV.lst (D.dvs es):=q;injection q with q;rw [D.dvs_inj h1 h2 q]
  | int=>cases q
  | str=>cases q
  | non=>cases q
  | bl=>cases h2
  | fl=>cases h2
  | exn=>cases h2
  | dct=>cases h2
  | fn=>cases h2
  | tup=>cases q
theorem D.dvs_inj:∀{ds es:List D},D.pls ds=true->D.pls es=true->D.dvs ds=D.dvs es->ds=es
 | [],[],_,_,_=>rfl
 | [],_::_,_,_,q=>by cases q
 | _::_,[],_,_,q=>by cases q
 | d::ds,e::es,h1,h2,q=>by
  have h1:=ae.mp (show (d.pl && D.pls ds)=true from h1);have h2:=ae.mp (show (e.pl && D.pls es)=true from h2);have q:d.dv::D.dvs ds=e.dv::D.dvs es:=q;injection q with q1 q2;rw [D.dv_inj h1.1 h2.1 q1,D.dvs_inj h1.2 h2.2 q2]
end
mutual
theorem Rp.rep:∀{d:D} {v:V},d.pl=true->Rp K f O H d v->Rep K H d.dv v
 | .int _,_,_,h=>h
 | .str _,_,_,h=>h
 | .non,_,_,h=>h
 | .bl _,_,h,_=>by cases h
 | .fl,_,h,_=>by cases h
 | .fn _,_,h,_=>by cases h
 | .exn _ _ _,_,h,_=>by cases h
 | .dct _ _,_,h,_=>by cases h
 | .tup ds,_,p,h=>by
  obtain⟨a,xs,e,h1,h2⟩:=h;exact⟨a,xs,e,h1,Rps.rep p h2⟩
 | .lst ds,_,p,h=>by
  obtain⟨a,xs,e,_,h1,h2⟩:=h;exact⟨a,xs,e,SqL.of h1,Rps.rep p h2⟩
theorem Rps.rep:∀{ds:List D} {vs:List V},D.pls ds=true->Rps K f O H ds vs->Reps K H (D.dvs ds) vs
 | [],_,_,h=>h
 | d::ds,_,p,h=>by
  have p:=ae.mp (show (d.pl && D.pls ds)=true from p);obtain⟨v,r,e,h1,h2⟩:=h;exact⟨v,r,e,Rp.rep p.1 h1,Rps.rep p.2 h2⟩
end
theorem OpR.or2{g:Value->Value->Sem Value}{r r':R2}(h:OpR X g r)(h':OpR X g r'):OpR X g (fun x y H Q=>r x y H Q\/r' x y H Q):=fun pins s σ H x y v u Q I rx ry q=>q.elim (h pins s σ H x y v u Q I rx ry) (h' pins s σ H x y v u Q I rx ry)
def oAdd:OD
 | .int i,.int j,Q=>Q (.int (i+j))
 | .str a,.str b,Q=>a.length+b.length<=sizeLine/\Q (.str (a++b))
 | .lst a,.lst b,Q=>a.length+b.length<=sizeLine/\Q (.lst (a++b))
 | .tup a,.tup b,Q=>a.length+b.length<=sizeLine/\Q (.tup (a++b))
 | _,_,_=>False
def oSub:OD
 | .int i,.int j,Q=>Q (.int (i-j))
 | _,_,_=>False
def oMul:OD
 | .int i,.int j,Q=>CMulB i j/\Q (.int (i*j))
 | .lst a,.int k,Q => -(2^63)<=k/\k<2^63/\a.length*k.toNat<=sizeLine/\Q (.lst (List.replicate k.toNat a).flatten)
 | .str z,.int n,Q=>z.length<=16 /\ -2^63<=n/\n<=1048576/\Q (.str (Txt.mul z n))
 | .tup a,.int k,Q=>a≠[]/\1<=k/\a.length*k.toNat<=100000/\Q (.tup (List.replicate k.toNat a).flatten)
 | _,_,_=>False
def oDiv:OD
 | .int i,.int j,Q=>nv i j/\Q (.int (i.fdiv j))
 | _,_,_=>False
def oMod:OD
 | .int i,.int j,Q=>j≠0/\Q (.int (i.fmod j))
 | _,_,_=>False
def oPow:OD
 | .int i,.int j,Q=>xv i j/\Q (.int (i^j.toNat))
 | _,_,_=>False
def oShl:OD
 | .int i,.int j,Q=>xv i j/\Q (.int (i*2^j.toNat))
 | _,_,_=>False
def pZ:OD:=fun _ _ _=>False
def oBin:Operator->OD
 | .Add=>oAdd | .Sub=>oSub | .Mult=>oMul | .FloorDiv=>oDiv | .Mod=>oMod | .Pow=>oPow | .LShift=>oShl|_=>pZ
def oLt:OD
 | .int i,.int j,Q=>Q (.bl (decide (i<j)))
 | _,_,_=>False
def oLe:OD
 | .int i,.int j,Q=>Q (.bl (decide (i<=j)))
 | _,_,_=>False
def oGt:OD
 | .int i,.int j,Q=>Q (.bl (decide (j<i)))
 | _,_,_=>False
def oGe:OD
 | .int i,.int j,Q=>Q (.bl (decide (j<=i)))
 | _,_,_=>False
def oEq(neg:Bool):OD
 | .int i,.int j,Q=>Q (.bl (if neg then !decide (i=j) else decide (i=j)))
 | .bl i,.bl j,Q=>Q (.bl (if neg then !decide (i=j) else decide (i=j)))
 | .str i,.str j,Q=>Q (.bl (if neg then !decide (i=j) else decide (i=j)))
 | .tup a,.tup b,Q=>D.pls a=true/\D.pls b=true/\D.dps a<=60/\∀ k,(k=true↔a=b)->Q (.bl (if neg then !k else k))
 | .lst a,.lst b,Q=>neg=neg/\D.pls a=true/\D.pls b=true/\D.dps a<=60/\∀ k,(k=true↔a=b)->Q (.bl (if neg then !k else k))
 | .dct ks l,.dct ks' l',Q=>neg=false/\ks=ks'/\l=l'/\(∃ ns:List Int,l=ns.map .int)/\Q (.bl true)
 | _,_,_=>False
def oIs(neg:Bool):OD:=fun x y Q=>match y with
 | .non=>Q (.bl (match x with | .non => !neg|_=>neg))
 | .bl j=>(match x with | .bl i=>Q (.bl (if neg then !decide (i=j) else decide (i=j)))|_=>False)
 | _=>False
def BG(i j:Str):Bool:=!(Builtin.Str.occurrences j i 0 j.length 1).isEmpty
def oIn(neg:Bool):OD:=fun x y Q=>(∃(i:Int) (ns:List Int),x = .int i/\(y = .lst (ns.map .int)\/y = .tup (ns.map .int))/\Q (.bl (if neg then !decide (i∈ns) else decide (i∈ns))))\/(∃(i:Str) (ns:List Str),x = .str i/\(y = .lst (ns.map .str)\/y = .tup (ns.map .str))/\Q (.bl (if neg then !decide (i∈ns) else decide (i∈ns))))\/(∃ l,y = .lst l/\x.pl=true/\D.pls l=true/\D.dps l<=60/\∀ k:Bool,(k=true↔x∈l)->Q (.bl (if neg then !k else k)))\/(∃ i j,x = .str i/\y = .str j/\Q (.bl (if neg then !BG i j else BG i j)))\/∃(s:Str) (ks:List jb) (l:List D),x = .str s/\y = .dct ks l/\Q (.bl (if neg then !(ks.any fun j=>decide (j=Sum.inr s)) else ks.any fun j=>decide (j=Sum.inr s)))
theorem oIn.mono{neg:Bool}:∀{x y Q Q'},(∀ d,Q d->Q' d)->oIn neg x y Q->oIn neg x y Q':=fun h q=>q.imp (fun⟨i,ns,e1,e2,q⟩=>⟨i,ns,e1,e2,h _ q⟩) (Or.imp (fun⟨i,ns,e1,e2,q⟩=>⟨i,ns,e1,e2,h _ q⟩) (Or.imp (fun⟨l,e,a,b,c,q⟩=>⟨l,e,a,b,c,fun k hk=>h _ (q k hk)⟩) (Or.imp (fun⟨i,j,e1,e2,q⟩=>⟨i,j,e1,e2,h _ q⟩) fun⟨s,ks,l,e1,e2,q⟩=>⟨s,ks,l,e1,e2,h _ q⟩)))
def oCmp:CmpOp->OD
 | .Eq=>oEq false | .NotEq=>oEq true | .Lt=>oLt | .LtE=>oLe | .Gt=>oGt | .GtE=>oGe | .Is=>oIs false | .IsNot=>oIs true | .In=>oIn false | .NotIn=>oIn true
theorem oAdd.mono:∀{x y Q Q'},(∀ d,Q d->Q' d)->oAdd x y Q->oAdd x y Q':=by intro x y Q Q' h;cases x <;> cases y <;> intro q <;> first|exact h _ q|exact q|exact⟨q.1,h _ q.2⟩|exact⟨q.1,q.2.1,q.2.2.1,h _ q.2.2.2⟩|exact⟨q.1,q.2.1,q.2.2.1,fun k e=>h _ (q.2.2.2 k e)⟩|exact⟨q.1,q.2.1,q.2.2.1,q.2.2.2.1,fun k e=>h _ (q.2.2.2.2 k e)⟩
theorem oSub.mono:∀{x y Q Q'},(∀ d,Q d->Q' d)->oSub x y Q->oSub x y Q':=by intro x y Q Q' h;cases x <;> cases y <;> intro q <;> first|exact h _ q|exact q|exact⟨q.1,h _ q.2⟩|exact⟨q.1,q.2.1,q.2.2.1,h _ q.2.2.2⟩|exact⟨q.1,q.2.1,q.2.2.1,fun k e=>h _ (q.2.2.2 k e)⟩|exact⟨q.1,q.2.1,q.2.2.1,q.2.2.2.1,fun k e=>h _ (q.2.2.2.2 k e)⟩
theorem oMul.mono:∀{x y Q Q'},(∀ d,Q d->Q' d)->oMul x y Q->oMul x y Q':=by intro x y Q Q' h;cases x <;> cases y <;> intro q <;> first|exact h _ q|exact q|exact⟨q.1,h _ q.2⟩|exact⟨q.1,q.2.1,q.2.2.1,h _ q.2.2.2⟩|exact⟨q.1,q.2.1,q.2.2.1,fun k e=>h _ (q.2.2.2 k e)⟩|exact⟨q.1,q.2.1,q.2.2.1,q.2.2.2.1,fun k e=>h _ (q.2.2.2.2 k e)⟩
theorem oDiv.mono:∀{x y Q Q'},(∀ d,Q d->Q' d)->oDiv x y Q->oDiv x y Q':=by intro x y Q Q' h;cases x <;> cases y <;> intro q <;> first|exact h _ q|exact q|exact⟨q.1,h _ q.2⟩|exact⟨q.1,q.2.1,q.2.2.1,h _ q.2.2.2⟩|exact⟨q.1,q.2.1,q.2.2.1,fun k e=>h _ (q.2.2.2 k e)⟩|exact⟨q.1,q.2.1,q.2.2.1,q.2.2.2.1,fun k e=>h _ (q.2.2.2.2 k e)⟩
theorem oMod.mono:∀{x y Q Q'},(∀ d,Q d->Q' d)->oMod x y Q->oMod x y Q':=by intro x y Q Q' h;cases x <;> cases y <;> intro q <;> first|exact h _ q|exact q|exact⟨q.1,h _ q.2⟩|exact⟨q.1,q.2.1,q.2.2.1,h _ q.2.2.2⟩|exact⟨q.1,q.2.1,q.2.2.1,fun k e=>h _ (q.2.2.2 k e)⟩|exact⟨q.1,q.2.1,q.2.2.1,q.2.2.2.1,fun k e=>h _ (q.2.2.2.2 k e)⟩
theorem oPow.mono:∀{x y Q Q'},(∀ d,Q d->Q' d)->oPow x y Q->oPow x y Q':=by intro x y Q Q' h;cases x <;> cases y <;> intro q <;> first|exact h _ q|exact q|exact⟨q.1,h _ q.2⟩|exact⟨q.1,q.2.1,q.2.2.1,h _ q.2.2.2⟩|exact⟨q.1,q.2.1,q.2.2.1,fun k e=>h _ (q.2.2.2 k e)⟩|exact⟨q.1,q.2.1,q.2.2.1,q.2.2.2.1,fun k e=>h _ (q.2.2.2.2 k e)⟩
theorem oShl.mono:∀{x y Q Q'},(∀ d,Q d->Q' d)->oShl x y Q->oShl x y Q':=by intro x y Q Q' h;cases x <;> cases y <;> intro q <;> first|exact q|exact⟨q.1,h _ q.2⟩
theorem oBin.mono{op:Operator}:∀{x y Q Q'},(∀ d,Q d->Q' d)->oBin op x y Q->oBin op x y Q':=by
 cases op;all_goals first|exact oAdd.mono|exact oSub.mono|exact oMul.mono|exact oDiv.mono|exact oMod.mono|exact oPow.mono|exact oShl.mono|exact fun _ q=>q
theorem oLt.mono:∀{x y Q Q'},(∀ d,Q d->Q' d)->oLt x y Q->oLt x y Q':=by intro x y Q Q' h;cases x <;> cases y <;> intro q <;> first|exact h _ q|exact q|exact⟨q.1,h _ q.2⟩|exact⟨q.1,q.2.1,q.2.2.1,h _ q.2.2.2⟩|exact⟨q.1,q.2.1,q.2.2.1,fun k e=>h _ (q.2.2.2 k e)⟩|exact⟨q.1,q.2.1,q.2.2.1,q.2.2.2.1,fun k e=>h _ (q.2.2.2.2 k e)⟩
theorem oLe.mono:∀{x y Q Q'},(∀ d,Q d->Q' d)->oLe x y Q->oLe x y Q':=by intro x y Q Q' h;cases x <;> cases y <;> intro q <;> first|exact h _ q|exact q|exact⟨q.1,h _ q.2⟩|exact⟨q.1,q.2.1,q.2.2.1,h _ q.2.2.2⟩|exact⟨q.1,q.2.1,q.2.2.1,fun k e=>h _ (q.2.2.2 k e)⟩|exact⟨q.1,q.2.1,q.2.2.1,q.2.2.2.1,fun k e=>h _ (q.2.2.2.2 k e)⟩
theorem oGt.mono:∀{x y Q Q'},(∀ d,Q d->Q' d)->oGt x y Q->oGt x y Q':=by intro x y Q Q' h;cases x <;> cases y <;> intro q <;> first|exact h _ q|exact q|exact⟨q.1,h _ q.2⟩|exact⟨q.1,q.2.1,q.2.2.1,h _ q.2.2.2⟩|exact⟨q.1,q.2.1,q.2.2.1,fun k e=>h _ (q.2.2.2 k e)⟩|exact⟨q.1,q.2.1,q.2.2.1,q.2.2.2.1,fun k e=>h _ (q.2.2.2.2 k e)⟩
theorem oGe.mono:∀{x y Q Q'},(∀ d,Q d->Q' d)->oGe x y Q->oGe x y Q':=by intro x y Q Q' h;cases x <;> cases y <;> intro q <;> first|exact h _ q|exact q|exact⟨q.1,h _ q.2⟩|exact⟨q.1,q.2.1,q.2.2.1,h _ q.2.2.2⟩|exact⟨q.1,q.2.1,q.2.2.1,fun k e=>h _ (q.2.2.2 k e)⟩|exact⟨q.1,q.2.1,q.2.2.1,q.2.2.2.1,fun k e=>h _ (q.2.2.2.2 k e)⟩
theorem oEq.mono{neg:Bool}:∀{x y Q Q'},(∀ d,Q d->Q' d)->oEq neg x y Q->oEq neg x y Q':=by intro x y Q Q' h;cases x <;> cases y <;> intro q <;> first|exact h _ q|exact q|exact⟨q.1,h _ q.2⟩|exact⟨q.1,q.2.1,q.2.2.1,h _ q.2.2.2⟩|exact⟨q.1,q.2.1,q.2.2.1,fun k e=>h _ (q.2.2.2 k e)⟩|exact⟨q.1,q.2.1,q.2.2.1,q.2.2.2.1,fun k e=>h _ (q.2.2.2.2 k e)⟩|exact⟨q.1,q.2.1,q.2.2.1,q.2.2.2.1,h _ q.2.2.2.2⟩
theorem oIs.mono{neg:Bool}:∀{x y Q Q'},(∀ d,Q d->Q' d)->oIs neg x y Q->oIs neg x y Q':=by intro x y Q Q' h;cases x <;> cases y <;> intro q <;> first|exact h _ q|exact q|exact⟨q.1,h _ q.2⟩|exact⟨q.1,q.2.1,q.2.2.1,h _ q.2.2.2⟩|exact⟨q.1,q.2.1,q.2.2.1,fun k e=>h _ (q.2.2.2 k e)⟩|exact⟨q.1,q.2.1,q.2.2.1,q.2.2.2.1,fun k e=>h _ (q.2.2.2.2 k e)⟩
theorem oCmp.mono{op:CmpOp}:∀{x y Q Q'},(∀ d,Q d->Q' d)->oCmp op x y Q->oCmp op x y Q':=by
 cases op;all_goals first|exact oLt.mono|exact oLe.mono|exact oGt.mono|exact oGe.mono|exact oEq.mono|exact oIs.mono|exact oIn.mono
def Rng(X:Cx)(g:Value->Value->Sem Value)(o:OD):Prop:=∃ r,OpR X g r/\RD X.K r o
theorem Rng.never{g:Value->Value->Sem Value}:Rng X g pZ:=⟨fun _ _ _ _=>False,fun _ _ _ _ _ _ _ _ _ _ _ _ h=>h.elim,fun _ _ _ _ _ _ _ _ _ _ _ _ _ h=>h.elim⟩
theorem yu:Rng X (binaryOp .Add) oAdd:=by
 refine⟨_,OpR.or2 jT (OpR.or2 pY (OpR.or2 yU (OpR.or2 wo (Bj X.K)))),?_⟩;intro f O σ ss H dx dy x y Q R rx ry h;cases dx <;> cases dy <;> first|(exact False.elim h)|skip
 ·rename_i i j;cases rx;cases ry;exact .inl ⟨i,j,rfl,rfl,h _ H (Ex.refl R.fl) rfl⟩
 ·rename_i i j;cases rx;cases ry;exact .inr (.inl ⟨i,j,rfl,rfl,h.1,h.2 _ H (Ex.refl R.fl) rfl⟩)
 ·rename_i la lb;obtain⟨a,xs,rfl,h1,h2⟩:=rx;obtain⟨b,ys,rfl,h3,h4⟩:=ry;obtain⟨hl,q⟩:=h;cases la with
  | nil =>
   cases (show xs=[] from h2);exact .inr (.inr (.inr (.inr ⟨a,b,ys,rfl,rfl,h1,h3,q _ H (Ex.refl R.fl) ⟨b,ys,rfl,h3,h4⟩⟩)))
  | cons d la =>
   refine .inr (.inr (.inr (.inl ⟨a,b,xs,ys,rfl,rfl,h1,h3,?_,by rw [h2.len,h4.len];exact hl,fun e=>?_,fun e p hp=>?_⟩)))
   ·obtain⟨v,r,e,_⟩:=h2;rw [e];simp
   ·subst e;cases lb with
    | nil =>
     refine q _ H (Ex.refl R.fl) ⟨a,xs,rfl,h1,?_⟩;rw [aL];exact h2
    | cons=>obtain⟨v,r,e,_⟩:=h4;cases e
   ·exact q _ _ (R.new hp _) (R.tup hp (h2.append h4))
 ·rename_i la lb;obtain⟨a,xs,rfl,n1,h1,h2⟩:=rx;obtain⟨b,ys,rfl,n2,h3,h4⟩:=ry;exact .inr (.inr (.inl ⟨a,b,xs,ys,rfl,rfl,h1,h3,by rw [h2.len,h4.len];exact h.1,fun p hp=>h.2 _ _ (R.new hp _) (R.lst hp (h2.append h4))⟩))
theorem kZ{g:Value->Value->Sem Value}{C:Int->Int->Prop}{w:Int->Int->Int}{o:OD}(h:OpR X g (rI C fun i j=>.int (w i j)))(ho:∀ dx dy Q,o dx dy Q->∃ i j,dx = .int i/\dy = .int j/\C i j/\Q (.int (w i j))):Rng X g o:=by
 refine⟨_,h,fun f O σ ss H dx dy x y Q R rx ry h=>?_⟩;obtain⟨i,j,rfl,rfl,c,q⟩:=ho _ _ _ h;cases rx;cases ry;exact⟨i,j,rfl,rfl,c,q _ H (Ex.refl R.fl) rfl⟩
theorem lE{g:Value->Value->Sem Value}{w:Int->Int->Bool}{o:OD}(h:OpR X g (tY fun i j=>.bl (w i j)))(ho:∀ dx dy Q,o dx dy Q->∃ i j,dx = .int i/\dy = .int j/\Q (.bl (w i j))):Rng X g o:=by
 refine⟨_,h,fun f O σ ss H dx dy x y Q R rx ry h=>?_⟩;obtain⟨i,j,rfl,rfl,q⟩:=ho _ _ _ h;cases rx;cases ry;exact⟨i,j,rfl,rfl,q _ H (Ex.refl R.fl) rfl⟩
theorem yr:Rng X (binaryOp .Mult) oMul:=by
 refine⟨_,OpR.or2 wj (OpR.or2 uw (OpR.or2 wc wg)),?_⟩;intro f O σ ss H dx dy x y Q R rx ry h;cases dx <;> cases dy <;> first|(exact False.elim h)|skip
 ·rename_i i j;cases rx;cases ry;exact .inl ⟨i,j,rfl,rfl,h.1,h.2 _ H (Ex.refl R.fl) rfl⟩
 ·cases rx;cases ry;exact .inr (.inr (.inr ⟨_,_,rfl,rfl,h.1,h.2.1,h.2.2.1,h.2.2.2 _ H (Ex.refl R.fl) rfl⟩))
 ·rename_i la k;obtain⟨a,xs,rfl,h1,h2⟩:=rx;cases ry;obtain⟨z1,z2,z3,q⟩:=h;obtain⟨k,rfl⟩:=aM (show 0<=k by omega);rw [aI] at z3 q;refine .inr (.inr (.inl ⟨a,xs,k,rfl,rfl,h1,fun z=>z1 ?_,by omega,by rw [h2.len];exact z3,fun e=>?_,fun _ p hp=>q _ _ (R.new hp _) (R.tup hp (h2.flat _))⟩))
  ·have:=h2.len;rw [z] at this;exact bo.mp this.symm
  ·refine q _ H (Ex.refl R.fl) ⟨a,xs,rfl,h1,?_⟩;rw [e,aV,List.replicate_zero,bh,List.flatten_nil,aL];exact h2
 ·rename_i la k;obtain⟨a,xs,rfl,n1,h1,h2⟩:=rx;cases ry;exact .inr <| .inl ⟨a,k,xs,rfl,rfl,h1,h.1,h.2.1,by rw [h2.len];exact h.2.2.1,fun p hp=>h.2.2.2 _ _ (R.new hp _) (R.lst hp (h2.flat _))⟩
theorem yt{k:Nat}(hr:Room k X.A)(op:Operator):Rng X (binaryOp op) (oBin op):=by
 cases op;case Add=>exact yu
 case Mult=>exact yr
 case Sub =>
  refine⟨_,yM,fun f O σ ss H dx dy x y Q R rx ry h=>?_⟩;cases dx <;> cases dy <;> first|(exact False.elim h)|skip
  cases rx;cases ry;exact⟨_,_,rfl,rfl,h _ H (Ex.refl R.fl) rfl⟩
 case FloorDiv=>exact kZ (oK hr) fun dx dy Q h=>by cases dx <;> cases dy <;> first|(exact False.elim h)|exact⟨_,_,rfl,rfl,h.1,h.2⟩
 case Mod=>exact kZ wl fun dx dy Q h=>by cases dx <;> cases dy <;> first|(exact False.elim h)|exact⟨_,_,rfl,rfl,h.1,h.2⟩
 case Pow=>exact kZ ux fun dx dy Q h=>by cases dx <;> cases dy <;> first|(exact False.elim h)|exact⟨_,_,rfl,rfl,h.1,h.2⟩
 case LShift=>exact kZ yN fun dx dy Q h=>by cases dx <;> cases dy <;> first|(exact False.elim h)|exact⟨_,_,rfl,rfl,h.1,h.2⟩
 all_goals exact Rng.never
theorem Ax{k:Nat}(hr:Room k X.A):Rng X (compareOp .Eq) (oEq false):=by
 refine⟨_,OpR.or2 oM (OpR.or2 (DB X.K hr) (OpR.or2 (Cy X.K hr) (wn hr.units0))),?_⟩;intro f O σ ss H dx dy x y Q R rx ry h;cases dx <;> cases dy <;> first|(exact False.elim h)|skip
 ·rename_i i j;cases rx;cases ry;refine .inl ⟨rfl,?_⟩;have e:(decide (V.bl i=V.bl j))=decide (i=j):=by cases i <;> cases j <;> rfl
  rw [e];exact h _ H (Ex.refl R.fl) rfl
 ·rename_i i j;cases rx;cases ry;refine .inl ⟨rfl,?_⟩;have e:(decide (V.int i=V.int j))=decide (i=j):=by simp
  rw [e];exact h _ H (Ex.refl R.fl) rfl
 ·rename_i i j;cases rx;cases ry;refine .inl ⟨rfl,?_⟩;have e:(decide (V.str i=V.str j))=decide (i=j):=by simp
  rw [e];exact h _ H (Ex.refl R.fl) rfl
 ·rename_i la lb;obtain⟨p1,p2,p3,q⟩:=h;refine .inr (.inl ⟨D.dvs la,D.dvs lb,Rp.rep (d:=.tup la) p1 rx,Rp.rep (d:=.tup lb) p2 ry,D.dvs_pl p1,D.dvs_pl p2,by rw [D.dvs_dp];exact p3,fun b hb=>?_⟩);exact q b (hb.trans ⟨fun e=>D.dvs_inj p1 p2 e,fun e=>by rw [e]⟩) _ H (Ex.refl R.fl) rfl
 ·rename_i la lb;obtain⟨_,p1,p2,p3,q⟩:=h;refine .inr (.inr (.inl ⟨D.dvs la,D.dvs lb,Rp.rep (d:=.lst la) p1 rx,Rp.rep (d:=.lst lb) p2 ry,D.dvs_pl p1,D.dvs_pl p2,by rw [D.dvs_dp];exact p3,fun b hb=>?_⟩));exact q b (hb.trans ⟨fun e=>D.dvs_inj p1 p2 e,fun e=>by rw [e]⟩) _ H (Ex.refl R.fl) rfl
 ·obtain⟨_,rfl,rfl,⟨ns,rfl⟩,q⟩:=h;obtain⟨a1,us,rfl,_,h1,_,h2⟩:=rx;obtain⟨a2,us',rfl,_,h3,_,h4⟩:=ry;cases h2.ints;cases h4.ints;refine .inr (.inr (.inr ⟨a1,a2,_,rfl,rfl,h1,h3,fun kv hkv=>?_,q _ H (Ex.refl R.fl) rfl⟩));obtain⟨n,hn,e⟩:=bg.mp (bW (show (kv.1,kv.2)∈_ from hkv)).2;exact⟨n,e.symm⟩
theorem Av{k:Nat}(hr:Room k X.A):Rng X (compareOp .NotEq) (oEq true):=by
 refine⟨_,OpR.or2 uy (OpR.or2 (Dt X.K hr) (Cf X.K hr)),?_⟩;intro f O σ ss H dx dy x y Q R rx ry h;cases dx <;> cases dy <;> first|(exact False.elim h)|skip
 ·rename_i i j;cases rx;cases ry;refine .inl ⟨rfl,?_⟩;have e:(decide (V.bl i=V.bl j))=decide (i=j):=by cases i <;> cases j <;> rfl
  rw [e];exact h _ H (Ex.refl R.fl) rfl
 ·rename_i i j;cases rx;cases ry;refine .inl ⟨rfl,?_⟩;have e:(decide (V.int i=V.int j))=decide (i=j):=by simp
  rw [e];exact h _ H (Ex.refl R.fl) rfl
 ·rename_i i j;cases rx;cases ry;refine .inl ⟨rfl,?_⟩;have e:(decide (V.str i=V.str j))=decide (i=j):=by simp
  rw [e];exact h _ H (Ex.refl R.fl) rfl
 ·rename_i la lb;obtain⟨p1,p2,p3,q⟩:=h;refine .inr (.inl ⟨D.dvs la,D.dvs lb,Rp.rep (d:=.tup la) p1 rx,Rp.rep (d:=.tup lb) p2 ry,D.dvs_pl p1,D.dvs_pl p2,by rw [D.dvs_dp];exact p3,fun b hb=>?_⟩);exact q b (hb.trans ⟨fun e=>D.dvs_inj p1 p2 e,fun e=>by rw [e]⟩) _ H (Ex.refl R.fl) rfl
 ·rename_i la lb;obtain⟨_,p1,p2,p3,q⟩:=h;refine .inr (.inr ⟨D.dvs la,D.dvs lb,Rp.rep (d:=.lst la) p1 rx,Rp.rep (d:=.lst lb) p2 ry,D.dvs_pl p1,D.dvs_pl p2,by rw [D.dvs_dp];exact p3,fun b hb=>?_⟩);exact q b (hb.trans ⟨fun e=>D.dvs_inj p1 p2 e,fun e=>by rw [e]⟩) _ H (Ex.refl R.fl) rfl
 ·cases h.1
theorem yQ:OpR X (compareOp .Is) (fun x y H Q=>∃ i j,x = .bl i/\y = .bl j/\Q (.bl (decide (i=j))) H):=by
 intro pins s σ H x y v u Q I rx ry h;obtain⟨i,j,rfl,rfl,q⟩:=h;cases rx;cases ry;exact wpAny_bind (wpAny_pure (wpAny_pure (iY I q (by cases i <;> cases j <;> rfl))))
theorem wf:OpR X (compareOp .IsNot) (fun x y H Q=>∃ i j,x = .bl i/\y = .bl j/\Q (.bl (!decide (i=j))) H):=by
 intro pins s σ H x y v u Q I rx ry h;obtain⟨i,j,rfl,rfl,q⟩:=h;cases rx;cases ry;exact wpAny_bind (wpAny_pure (wpAny_pure (iY I q (by cases i <;> cases j <;> rfl))))
theorem Aw:Rng X (compareOp .Is) (oIs false):=by
 refine⟨_,OpR.or2 yP yQ,fun f O σ ss H dx dy x y Q R rx ry h=>?_⟩;cases dy <;> first|(exact False.elim h)|skip
 ·cases ry;refine .inl ⟨rfl,?_⟩;cases dx;case tup=>obtain⟨a,xs,rfl,_⟩:=rx;exact h _ H (Ex.refl R.fl) rfl
  case lst=>obtain⟨a,xs,rfl,_⟩:=rx;exact h _ H (Ex.refl R.fl) rfl
  case exn=>obtain⟨a,xs,rfl,_⟩:=rx;exact h _ H (Ex.refl R.fl) rfl
  case dct=>obtain⟨a,xs,rfl,_⟩:=rx;exact h _ H (Ex.refl R.fl) rfl
  all_goals (cases rx;exact h _ H (Ex.refl R.fl) rfl)
 ·cases ry;cases dx <;> first|(exact False.elim h)|skip
  cases rx;exact .inr ⟨_,_,rfl,rfl,h _ H (Ex.refl R.fl) rfl⟩
theorem tU:Rng X (compareOp .IsNot) (oIs true):=by
 refine⟨_,OpR.or2 we wf,fun f O σ ss H dx dy x y Q R rx ry h=>?_⟩;cases dy <;> first|(exact False.elim h)|skip
 ·cases ry;refine .inl ⟨rfl,?_⟩;cases dx;case tup=>obtain⟨a,xs,rfl,_⟩:=rx;exact h _ H (Ex.refl R.fl) rfl
  case lst=>obtain⟨a,xs,rfl,_⟩:=rx;exact h _ H (Ex.refl R.fl) rfl
  case exn=>obtain⟨a,xs,rfl,_⟩:=rx;exact h _ H (Ex.refl R.fl) rfl
  case dct=>obtain⟨a,xs,rfl,_⟩:=rx;exact h _ H (Ex.refl R.fl) rfl
  all_goals (cases rx;exact h _ H (Ex.refl R.fl) rfl)
 ·cases ry;cases dx <;> first|(exact False.elim h)|skip
  cases rx;exact .inr ⟨_,_,rfl,rfl,h _ H (Ex.refl R.fl) rfl⟩
theorem Rps.strs:∀{zs:List Str} {vs:List V},Rps K f O H (zs.map D.str) vs->vs=zs.map V.str
 | [],_,h=>h
 | z::zs,_,h=>by
  obtain⟨v,r,e1,h1,h2⟩:=h;rw [e1,Rps.strs h2,show v = .str z from h1];rfl
theorem rC(i:Int)(ns:List Int):zS (.int i) (ns.map V.int)=decide (i∈ns):=by
 apply bf.mpr;unfold zS;rw [cr,decide_eq_true_iff];constructor
 ·rintro⟨y,hy,e⟩;obtain⟨j,hj,rfl⟩:=bg.mp hy;have e:(j == i)=true:=e;exact beq_iff_eq.mp e ▸ hj
 ·exact fun h=>⟨_,bg.mpr ⟨i,h,rfl⟩,show (i == i)=true from beq_self_eq_true i⟩
theorem rB(i:Str)(ns:List Str):zS (.str i) (ns.map V.str)=decide (i∈ns):=by
 apply bf.mpr;unfold zS;rw [cr,decide_eq_true_iff];constructor
 ·rintro⟨y,hy,e⟩;obtain⟨j,hj,rfl⟩:=bg.mp hy;have e:(j == i)=true:=e;exact beq_iff_eq.mp e ▸ hj
 ·exact fun h=>⟨_,bg.mpr ⟨i,h,rfl⟩,show (i == i)=true from beq_self_eq_true i⟩
theorem D.dvs_mem{x:D}:∀{l:List D},x.pl=true->D.pls l=true->(x.dv∈D.dvs l↔x∈l)
 | [],_,_=>⟨fun h=>(by cases h),fun h=>by cases h⟩
 | d::l,hx,hl=>by
  have h:=ae.mp (show (d.pl && D.pls l)=true from hl);show x.dv∈d.dv::D.dvs l↔_;rw [ah,ah,D.dvs_mem hx h.2];exact or_congr ⟨fun e=>D.dv_inj hx h.1 e,fun e=>by rw [e]⟩ Iff.rfl
def yB(neg:Bool):R2:=fun x y H Q=>∃ i j,x = .str i/\y = .str j/\Q (.bl (if neg then !BG i j else BG i j)) H
theorem xD(neg:Bool):RD K (fun x y H Q=>Cb K neg x y H Q\/yC K neg x y H Q\/yB neg x y H Q\/yD neg x y H Q) (oIn neg):=by
 rintro f O σ ss H dx dy x y Q R rx ry (⟨i,ns,rfl,hy,q⟩|⟨i,ns,rfl,hy,q⟩|⟨l,rfl,p1,p2,p3,q⟩|⟨i,j,rfl,rfl,q⟩|⟨i,ks,l,rfl,rfl,q⟩)
 ·cases rx;have fl:(ns.map V.int).all ku=true:=by rw [cE];exact aP.mpr fun _ _=>rfl
  rcases hy with rfl|rfl
  ·obtain⟨a,xs,rfl,_,h1,r1⟩:=ry;rw [Rps.ints r1] at h1;exact .inl ⟨a,_,rfl,.inl (SqL.of h1),rfl,fl,by rw [rC];exact q _ H (Ex.refl R.fl) rfl⟩
  ·obtain⟨a,xs,rfl,h1,r1⟩:=ry;rw [Rps.ints r1] at h1;exact .inl ⟨a,_,rfl,.inr h1,rfl,fl,by rw [rC];exact q _ H (Ex.refl R.fl) rfl⟩
 ·cases rx;have fl:(ns.map V.str).all ku=true:=by rw [cE];exact aP.mpr fun _ _=>rfl
  rcases hy with rfl|rfl
  ·obtain⟨a,xs,rfl,_,h1,r1⟩:=ry;rw [Rps.strs r1] at h1;exact .inl ⟨a,_,rfl,.inl (SqL.of h1),rfl,fl,by rw [rB];exact q _ H (Ex.refl R.fl) rfl⟩
  ·obtain⟨a,xs,rfl,h1,r1⟩:=ry;rw [Rps.strs r1] at h1;exact .inl ⟨a,_,rfl,.inr h1,rfl,fl,by rw [rB];exact q _ H (Ex.refl R.fl) rfl⟩
 ·exact .inr <| .inl ⟨dx.dv,D.dvs l,Rp.rep p1 rx,Rp.rep (d:=.lst l) p2 ry,D.dv_pl p1,D.dvs_pl p2,by rw [D.dvs_dp];exact p3,fun b hb=>q b (hb.trans (D.dvs_mem p1 p2)) _ H (Ex.refl R.fl) rfl⟩
 ·cases rx;cases ry;exact .inr (.inr (.inl ⟨i,j,rfl,rfl,q _ H (Ex.refl R.fl) rfl⟩))
 ·cases rx;obtain⟨a,us,rfl,_,h1,h2,h3⟩:=ry;exact .inr (.inr (.inr ⟨a,_,rfl,.inl ⟨_,Sum.inr i,.inl h1,rfl,rfl⟩,by rw [ou h2];exact q _ H (Ex.refl R.fl) rfl⟩))
theorem k6{k:Nat}(hr:Room k X.A)(op:CmpOp):Rng X (compareOp op) (oCmp op):=by
 cases op;case Eq=>exact Ax hr
 case NotEq=>exact Av hr
 case Lt=>exact lE xH fun dx dy Q h=>by cases dx <;> cases dy <;> first|(exact False.elim h)|exact⟨_,_,rfl,rfl,h⟩
 case LtE=>exact lE AN fun dx dy Q h=>by cases dx <;> cases dy <;> first|(exact False.elim h)|exact⟨_,_,rfl,rfl,h⟩
 case Gt=>exact lE xI fun dx dy Q h=>by cases dx <;> cases dy <;> first|(exact False.elim h)|exact⟨_,_,rfl,rfl,h⟩
 case GtE=>exact lE xJ fun dx dy Q h=>by cases dx <;> cases dy <;> first|(exact False.elim h)|exact⟨_,_,rfl,rfl,h⟩
 case Is=>exact Aw
 case IsNot=>exact tU
 case In=>exact⟨_,OpR.or2 sy (OpR.or2 (yR X.K hr) (OpR.or2 (show OpR X (compareOp .In) (yB false) from sx) (yS (by have:=hr.un;omega)))),xD false⟩
 case NotIn=>exact⟨_,OpR.or2 nJ (OpR.or2 (sq X.K hr) (OpR.or2 (show OpR X (compareOp .NotIn) (yB true) from nI) (sv (by have:=hr.un;omega)))),xD true⟩
end Dp
namespace Dp
open PySem L2
variable{K:Frag}{Jx:Hp->Prop}{f:Addr}{O O':List Addr}{H H':Hp}{X:Cx}{σ:St}{ss:SS}{a b c:Expr}{ta tb tc:TEd}{tA tB:TTd}{pos:Pos}
def dm(op:Operator)(a b:TEd):TEd:=d2 (oBin op) oBin.mono a b
theorem dm.ok{k:Nat}{op:Operator}(hr:Room k X.A)(ha:PE X a (LE X.K Jx ta))(hb:PE X b (LE X.K Jx tb)):PE X (.BinOp a op b pos) (LE X.K Jx (dm op ta tb)):=by
 obtain⟨r,h,hr⟩:=yt (X:=X) hr op;exact d2.ok hr (ji h ha hb)
def dl(op:CmpOp)(a b:TEd):TEd:=d2 (oCmp op) oCmp.mono a b
theorem dl.ok{k:Nat}{op:CmpOp}(hr:Room k X.A)(ha:PE X a (LE X.K Jx ta))(hb:PE X b (LE X.K Jx tb))(hm:behindInMarks op b=false):PE X (.Compare a [op] [b] pos) (LE X.K Jx (dl op ta tb)):=by
 obtain⟨r,h,hr⟩:=k6 hr op;exact d2.ok hr (lF h ha hb hm)
def dg(t:TEd):TTd:=⟨fun ss Q=>t.run ss fun d=>match d with | .bl b=>Q b|_=>False,fun {ss Q Q'} h q=>t.mono (fun d q=>by
 revert q;cases d <;> first|exact h _|exact id) q⟩
theorem LE.test{t:TEd}{σ:St}{H:Hp}{Q:Bool->Hp->Prop}(h:LT X.K Jx (dg t) σ H Q):tN (LE X.K Jx t) σ H Q:=by
 obtain⟨f,O,ss,R,q⟩:=h;refine⟨f,O,ss,R,t.mono (fun d q v H' e r=>?_) q⟩;cases d <;> first|exact False.elim q|skip
 cases r;exact⟨_,rfl,q H' e⟩
theorem dl.test{k:Nat}{op:CmpOp}(hr:Room k X.A)(ha:PE X a (LE X.K Jx ta))(hb:PE X b (LE X.K Jx tb))(hm:behindInMarks op b=false):PT X (.Compare a [op] [b] pos) (LT X.K Jx (dg (dl op ta tb))):=by
 obtain⟨r,h,hr⟩:=k6 hr op;refine (jS (pos:=pos) h ha hb hm).weak fun σ H Q q=>?_;have q:=LE.test q;obtain⟨f,O,ss,R,q⟩:=q;refine⟨f,O,ss,R,ta.mono (fun dx q v1 H1 e1 r1=>?_) q⟩;refine⟨f,O,ss,R.ex e1,tb.mono (fun dy q v2 H2 e2 r2=>?_) q⟩;exact hr f O σ ss H2 dx dy v1 v2 _ ((R.ex e1).ex e2).tr ((R.ex e1).up e2 r1) r2 (oCmp.mono (fun d q v H' e3 r3=>q v H' (e1.trans (e2.trans e3)) r3) q)
def er(op op':CmpOp)(a b c:TEd):TEd:=⟨fun ss Q=>a.run ss fun x=>b.run ss fun y=>oCmp op x y fun z=>match z with | .bl k=>if k=true then c.run ss fun w=>oCmp op' y w Q else Q (.bl false)|_=>False,fun {ss Q Q'} h q=>a.mono (fun x q=>b.mono (fun y q=>oCmp.mono (fun d q=>by
 revert q;cases d <;> first|exact id|skip
 rename_i k;cases k
 ·exact h _
 ·exact c.mono fun w q=>oCmp.mono h q) q) q) q⟩
theorem er.test{k:Nat}{op op':CmpOp}(hr:Room k X.A)(ha:PE X a (LE X.K Jx ta))(hb:PE X b (LE X.K Jx tb))(hc:PE X c (LE X.K Jx tc))(hm:lastMarks [op,op'] [b,c]=false):PT X (.Compare a [op,op'] [b,c] pos) (LT X.K Jx (dg (er op op' ta tb tc))):=by
 obtain⟨r,h,h1⟩:=k6 hr op;obtain⟨r',h',h2⟩:=k6 hr op';refine (t3 (pos:=pos) h h' ha hb hc hm).weak fun σ H Q q=>?_;have q:=LE.test q;obtain⟨f,O,ss,R,q⟩:=q;refine⟨f,O,ss,R,ta.mono (fun dx q v1 H1 e1 r1=>?_) q⟩;refine⟨f,O,ss,R.ex e1,tb.mono (fun dy q v2 H2 e2 r2=>?_) q⟩;have R2:=(R.ex e1).ex e2;refine h1 f O σ ss H2 dx dy v1 v2 _ R2.tr ((R.ex e1).up e2 r1) r2 (oCmp.mono (fun d q v H3 e3 r3=>?_) q);cases d <;> first|exact False.elim q|skip
 rename_i k;cases r3;refine⟨k,rfl,?_⟩;cases k
 ·exact q _ H3 (e1.trans (e2.trans e3)) rfl
 ·have R3:=R2.ex e3;refine⟨f,O,ss,R3,tc.mono (fun dz q v4 H4 e4 r4=>?_) q⟩;exact h2 f O σ ss H4 dy dz v2 v4 _ (R3.ex e4).tr (R3.up e4 (R2.up e3 r2)) r4 (oCmp.mono (fun d q v H' e5 r5=>q v H' (e1.trans (e2.trans (e3.trans (e4.trans e5)))) r5) q)
theorem er.ok{k:Nat}{op op':CmpOp}(hr:Room k X.A)(ha:PE X a (LE X.K Jx ta))(hb:PE X b (LE X.K Jx tb))(hc:PE X c (LE X.K Jx tc))(hm:lastMarks [op,op'] [b,c]=false):PE X (.Compare a [op,op'] [b,c] pos) (LE X.K Jx (er op op' ta tb tc)):=by
 obtain⟨r,h,h1⟩:=k6 hr op;obtain⟨r',h',h2⟩:=k6 hr op';refine (ug (pos:=pos) h h' ha hb hc hm).weak fun σ H Q q=>?_;obtain⟨f,O,ss,R,q⟩:=q;refine⟨f,O,ss,R,ta.mono (fun dx q v1 H1 e1 r1=>?_) q⟩;refine⟨f,O,ss,R.ex e1,tb.mono (fun dy q v2 H2 e2 r2=>?_) q⟩;have R2:=(R.ex e1).ex e2;refine h1 f O σ ss H2 dx dy v1 v2 _ R2.tr ((R.ex e1).up e2 r1) r2 (oCmp.mono (fun d q v H3 e3 r3=>?_) q);cases d <;> first|exact False.elim q|skip
 rename_i k;cases r3;refine⟨k,rfl,?_⟩;cases k
 ·exact q _ H3 (e1.trans (e2.trans e3)) rfl
 ·have R3:=R2.ex e3;refine⟨f,O,ss,R3,tc.mono (fun dz q v4 H4 e4 r4=>?_) q⟩;exact h2 f O σ ss H4 dy dz v2 v4 _ (R3.ex e4).tr (R3.up e4 (R2.up e3 r2)) r4 (oCmp.mono (fun d q v H' e5 r5=>q v H' (e1.trans (e2.trans (e3.trans (e4.trans e5)))) r5) q)
def hX(a:TEd):TEd:=⟨fun ss Q=>a.run ss fun d=>match d with | .int i=>Q (.int (-i))|_=>False,fun {ss Q Q'} h q=>a.mono (fun d q=>by
 revert q;cases d <;> first|exact h _|exact id) q⟩
theorem hX.ok(ha:PE X a (LE X.K Jx ta)):PE X (.UnaryOp .USub a pos) (LE X.K Jx (hX ta)):=(xG (pos:=pos) tI ha).weak fun σ H Q ⟨f,O,ss,R,q⟩=>⟨f,O,ss,R,ta.mono (fun d q v H1 e r=>by
 cases d <;> first|exact False.elim q|skip
 cases r;exact⟨_,rfl,q _ H1 e rfl⟩) q⟩
def truD:D->(Bool->Prop)->Prop
 | .non,Q=>Q false
 | .bl b,Q=>Q b
 | .int i,Q=>Q (i != 0)
 | .str y,Q=>y.length<=sizeLine/\Q ((y.length:Int) != 0)
 | .tup l,Q=>Q (!l.isEmpty)
 | .lst l,Q=>Q (!l.isEmpty)
 | .fl,_=>False
 | .exn _ _ _,_=>False
 | .dct _ _,_=>False
 | .fn _,_=>False
theorem truD.mono:∀{d:D} {Q Q':Bool->Prop},(∀ b,Q b->Q' b)->truD d Q->truD d Q'
 | .non,_,_,h,q=>h _ q
 | .bl _,_,_,h,q=>h _ q
 | .int _,_,_,h,q=>h _ q
 | .str _,_,_,h,q=>⟨q.1,h _ q.2⟩
 | .tup _,_,_,h,q=>h _ q
 | .lst _,_,_,h,q=>h _ q
 | .fl,_,_,_,q=>q
 | .exn _ _ _,_,_,_,q=>q
 | .dct _ _,_,_,_,q=>q
 | .fn _,_,_,_,q=>q
theorem Rps.empty:∀{ds:List D} {vs:List V},Rps K f O H ds vs->vs.isEmpty=ds.isEmpty
 | [],_,h=>by rw [show _=[] from h];rfl
 | _::_,_,h=>by obtain⟨v,r,e,_⟩:=h;rw [e];rfl
def fj(a:TEd):TTd:=⟨fun ss Q=>a.run ss fun d=>truD d Q,fun h q=>a.mono (fun d q=>truD.mono h q) q⟩
theorem fj.ok(ha:PE X a (LE X.K Jx ta))(he:∀ whole,isTrue a X.env whole=(do let v ← whole;standAt a.pos;holding [v] (truthy v))):PT X a (LT X.K Jx (fj ta)):=(oI ha he).weak fun σ H Q ⟨f,O,ss,R,q⟩=>⟨f,O,ss,R,ta.mono (fun d q v H1 e r=>by
 cases d;case non=>cases r;exact⟨false,rfl,q H1 e⟩
 case bl=>cases r;exact⟨_,rfl,q H1 e⟩
 case int=>cases r;exact⟨_,rfl,q H1 e⟩
 case str=>cases r;exact⟨_,⟨q.1,rfl⟩,q.2 H1 e⟩
 case tup l =>
  obtain⟨p,xs,rfl,h1,h2⟩:=r;exact⟨_,.inr (.inl ⟨xs,h1,by rw [h2.empty]⟩),q H1 e⟩
 case lst l =>
  obtain⟨p,xs,rfl,_,h1,h2⟩:=r;exact⟨_,.inl ⟨xs,SqL.of h1,by rw [h2.empty]⟩,q H1 e⟩
 case fl=>exact False.elim q
 case exn=>exact False.elim q
 case dct=>exact False.elim q
 case fn=>exact False.elim q) q⟩
def eg(a b:TTd):TTd:=⟨fun ss Q=>a.run ss fun k=>if k=true then b.run ss Q else Q false,fun {ss Q Q'} h q=>a.mono (fun k q=>by
 revert q;cases k
 ·exact h _
 ·exact b.mono h) q⟩
def eQ(a b:TTd):TTd:=⟨fun ss Q=>a.run ss fun k=>if k=true then Q true else b.run ss Q,fun {ss Q Q'} h q=>a.mono (fun k q=>by
 revert q;cases k
 ·exact b.mono h
 ·exact h _) q⟩
def eI(a:TTd):TTd:=⟨fun ss Q=>a.run ss fun k=>Q (!k),fun h q=>a.mono (fun k q=>h _ q) q⟩
theorem eg.weak{σ:St}{H:Hp}{Q:Bool->Hp->Prop}(h:LT X.K Jx (eg tA tB) σ H Q):Ap (LT X.K Jx tA) (LT X.K Jx tB) σ H Q:=by
 obtain⟨f,O,ss,S,q⟩:=h;refine⟨f,O,ss,S,tA.mono (fun k q H1 e=>?_) q⟩;cases k
 ·exact q H1 e
 ·exact⟨f,O,ss,S.ex e,tB.mono (fun k q H2 e2=>q H2 (e.trans e2)) q⟩
theorem eQ.weak{σ:St}{H:Hp}{Q:Bool->Hp->Prop}(h:LT X.K Jx (eQ tA tB) σ H Q):CT (LT X.K Jx tA) (LT X.K Jx tB) σ H Q:=by
 obtain⟨f,O,ss,S,q⟩:=h;refine⟨f,O,ss,S,tA.mono (fun k q H1 e=>?_) q⟩;cases k
 ·exact⟨f,O,ss,S.ex e,tB.mono (fun k q H2 e2=>q H2 (e.trans e2)) q⟩
 ·exact q H1 e
theorem _root_.L2.PW.weak{e:Expr}{t t':TT}(h:PW X e t)(w:∀ σ H Q,t' σ H Q->t σ H Q):PW X e t':=fun wh pins s σ H Q I q=>h wh pins s σ H Q I (w σ H Q q)
theorem eg.ok{rest:List Expr}(ha:PT X a (LT X.K Jx tA))(hb:PW X (.BoolOp .And (b::rest) pos) (LT X.K Jx tB)):PW X (.BoolOp .And (a::b::rest) pos) (LT X.K Jx (eg tA tB)):=(tZ ha hb).weak fun _ _ _=>eg.weak
theorem eQ.ok{rest:List Expr}(ha:PT X a (LT X.K Jx tA))(hb:PW X (.BoolOp .Or (b::rest) pos) (LT X.K Jx tB)):PW X (.BoolOp .Or (a::b::rest) pos) (LT X.K Jx (eQ tA tB)):=(AJ ha hb).weak fun _ _ _=>eQ.weak
theorem eI.ok(ha:PT X a (LT X.K Jx tA)):PT X (.UnaryOp .Not a pos) (LT X.K Jx (eI tA)):=(yG ha).weak fun σ H Q ⟨f,O,ss,S,q⟩=>⟨f,O,ss,S,q⟩
def g7(a b:TEd):TEd:=⟨fun ss Q=>a.run ss fun d=>match d with | .bl k=>if k=true then b.run ss Q else Q (.bl false)|_=>False,fun {ss Q Q'} h q=>a.mono (fun d q=>by
 revert q;cases d <;> first|exact id|skip
 rename_i k;cases k
 ·exact h _
 ·exact b.mono h) q⟩
def dOr(a b:TEd):TEd:=⟨fun ss Q=>a.run ss fun d=>match d with | .bl k=>if k=true then Q (.bl true) else b.run ss Q|_=>False,fun {ss Q Q'} h q=>a.mono (fun d q=>by
 revert q;cases d <;> first|exact id|skip
 rename_i k;cases k
 ·exact b.mono h
 ·exact h _) q⟩
def hZ(a:TEd):TEd:=⟨fun ss Q=>a.run ss fun d=>match d with | .bl k=>Q (.bl (!k))|_=>False,fun {ss Q Q'} h q=>a.mono (fun d q=>by
 revert q;cases d <;> first|exact h _|exact id) q⟩
theorem g7.ok{rest:List Expr}(ha:PE X a (LE X.K Jx ta))(hb:PE X (.BoolOp .And (b::rest) pos) (LE X.K Jx tb)):PE X (.BoolOp .And (a::b::rest) pos) (LE X.K Jx (g7 ta tb)):=(pW ha hb).weak fun σ H Q ⟨f,O,ss,S,q⟩=>⟨f,O,ss,S,ta.mono (fun d q v H1 e r=>by
 cases d <;> first|exact False.elim q|skip
 rename_i k;cases r;refine⟨k,rfl,?_⟩;cases k
 ·exact q _ H1 e rfl
 ·exact⟨f,O,ss,S.ex e,tb.mono (fun k q v H2 e2 r=>q v H2 (e.trans e2) r) q⟩) q⟩
theorem dOr.ok{rest:List Expr}(ha:PE X a (LE X.K Jx ta))(hb:PE X (.BoolOp .Or (b::rest) pos) (LE X.K Jx tb)):PE X (.BoolOp .Or (a::b::rest) pos) (LE X.K Jx (dOr ta tb)):=(AL ha hb).weak fun σ H Q ⟨f,O,ss,S,q⟩=>⟨f,O,ss,S,ta.mono (fun d q v H1 e r=>by
 cases d <;> first|exact False.elim q|skip
 rename_i k;cases r;refine⟨k,rfl,?_⟩;cases k
 ·exact⟨f,O,ss,S.ex e,tb.mono (fun k q v H2 e2 r=>q v H2 (e.trans e2) r) q⟩
 ·exact q _ H1 e rfl) q⟩
theorem hZ.ok(ha:PE X a (LE X.K Jx ta)):PE X (.UnaryOp .Not a pos) (LE X.K Jx (hZ ta)):=(yK (pos:=pos) ha).weak fun σ H Q ⟨f,O,ss,S,q⟩=>⟨f,O,ss,S,ta.mono (fun d q v H1 e r=>by
 cases d <;> first|exact False.elim q|skip
 rename_i k;cases r;exact⟨k,rfl,q _ H1 e rfl⟩) q⟩
def ia(c:TTd)(a b:TEd):TEd:=⟨fun ss Q=>c.run ss fun k=>if k=true then a.run ss Q else b.run ss Q,fun {ss Q Q'} h q=>c.mono (fun k q=>by
 revert q;cases k
 ·exact b.mono h
 ·exact a.mono h) q⟩
theorem ia.ok(hc:PT X c (LT X.K Jx tA))(ha:PE X a (LE X.K Jx ta))(hb:PE X b (LE X.K Jx tb)):PE X (.IfExp c a b pos) (LE X.K Jx (ia tA ta tb)):=(ue (pos:=pos) hc ha hb).weak fun σ H Q ⟨f,O,ss,S,q⟩=>⟨f,O,ss,S,tA.mono (fun k q H1 e=>by
 cases k
 ·exact⟨f,O,ss,S.ex e,tb.mono (fun k q v H2 e2 r=>q v H2 (e.trans e2) r) q⟩
 ·exact⟨f,O,ss,S.ex e,ta.mono (fun k q v H2 e2 r=>q v H2 (e.trans e2) r) q⟩) q⟩
def de:TAd:=⟨fun _ Q=>Q [],fun h q=>h _ q⟩
def c8(a:TEd)(r:TAd):TAd:=⟨fun ss Q=>a.run ss fun d=>r.run ss fun ds=>Q (d::ds),fun h q=>a.mono (fun d q=>r.mono (fun ds q=>h _ q) q) q⟩
theorem de.ok:PA X [] (LA X.K Jx de):=pa_nil.weak fun σ H Q ⟨f,O,ss,S,q⟩=>q [] H (Ex.refl S.fl) rfl
theorem c8.ok{es:List Expr}{t:TAd}(ha:PE X a (LE X.K Jx ta))(hr:PA X es (LA X.K Jx t))(hs:starEach (a::es) X.env=(false,eval a X.env)::starEach es X.env):PA X (a::es) (LA X.K Jx (c8 ta t)):=(iS ha hr hs).weak fun σ H Q ⟨f,O,ss,S,q⟩ =>
 ⟨f,O,ss,S,ta.mono (fun d q v H1 e r=>⟨f,O,ss,S.ex e,t.mono (fun ds q vs H2 e2 r2=>q (v::vs) H2 (e.trans e2) ⟨v,vs,rfl,(S.ex e).up e2 r,r2⟩) q⟩) q⟩
def dJ(t:TAd):TEd:=⟨fun ss Q=>t.run ss fun ds=>ds.length<=sizeLine/\Q (.tup ds),fun h q=>t.mono (fun ds q=>⟨q.1,h _ q.2⟩) q⟩
def dO(t:TAd):TEd:=⟨fun ss Q=>t.run ss fun ds=>ds.length<=sizeLine/\Q (.lst ds),fun h q=>t.mono (fun ds q=>⟨q.1,h _ q.2⟩) q⟩
theorem dJ.ok{es:List Expr}{t:TAd}{k:Nat}(h:PA X es (LA X.K Jx t)):PE X (.Tuple es k pos) (LE X.K Jx (dJ t)):=(pT h).weak fun σ H Q ⟨f,O,ss,S,q⟩ =>
 ⟨f,O,ss,S,t.mono (fun ds q vs H1 e r=>⟨by rw [r.len];exact q.1,fun p hp=>q.2 _ _ (e.trans ((S.ex e).new hp _)) ((S.ex e).tup hp r)⟩) q⟩
theorem dO.ok{es:List Expr}{t:TAd}(h:PA X es (LA X.K Jx t)):PE X (.List es pos) (LE X.K Jx (dO t)):=(pV h).weak fun σ H Q ⟨f,O,ss,S,q⟩ =>
 ⟨f,O,ss,S,t.mono (fun ds q vs H1 e r=>⟨by rw [r.len];exact q.1,fun p hp=>q.2 _ _ (e.trans ((S.ex e).new hp _)) ((S.ex e).lst hp r)⟩) q⟩
def itD(l:List D)(i:Int)(Q:D->Prop):Prop:=match tq l i with|some d=>Q d|none=>False
theorem itD.mono{l:List D}{i:Int}{Q Q':D->Prop}(h:∀ d,Q d->Q' d):itD l i Q->itD l i Q':=by
 unfold itD;split
 ·exact h _
 ·exact id
theorem itD.rp{l:List D}{xs:List V}{i:Int}{Q:D->Prop}(r:Rps K f O H l xs)(q:itD l i Q):∃ v d,tq xs i=some v/\Rp K f O H d v/\Q d:=by
 unfold itD at q;split at q
 ·rename_i d e;unfold tq at e ⊢;rw [r.len];cases h:vB l.length i with
  | none=>rw [h] at e;cases e
  | some j =>
   rw [h] at e;obtain⟨v,h1,h2⟩:=r.get (show l[j]? = some d from e);exact⟨v,d,h1,h2,q⟩
 ·exact q.elim
def oIx:OD
 | .lst l,.int i,Q=>itD l i Q
 | .tup l,.int i,Q=>itD l i Q
 | .str z,.int i,Q=>z.length<=sizeLine/\∃ c,tq z.cps.toList i=some c/\Q (.str ⟨#[c]⟩)
 | .dct ks l,.int i,Q=>∃(j:Nat) (d:D),ks[j]? = some (Sum.inl i)/\l[j]? = some d/\Q d
 | .dct ks l,.str x,Q=>∃(j:Nat) (d:D),ks[j]? = some (Sum.inr x)/\l[j]? = some d/\Q d
 | _,_,_=>False
theorem oIx.mono:∀{x y Q Q'},(∀ d,Q d->Q' d)->oIx x y Q->oIx x y Q':=by
 intro x y Q Q' h;cases x <;> cases y <;> intro q <;> first|exact itD.mono h q|exact q|skip
 ·obtain⟨q0,c,q1,q2⟩:=q;exact⟨q0,c,q1,h _ q2⟩
 ·obtain⟨j,d,q0,q1,q2⟩:=q;exact⟨j,d,q0,q1,h _ q2⟩
 ·obtain⟨j,d,q0,q1,q2⟩:=q;exact⟨j,d,q0,q1,h _ q2⟩
def AA(K:Frag):R2:=fun x y H Q=>BC K x y H Q\/AD x y H Q
theorem uM:IxR X (AA X.K):=ix_seq.or wK
theorem u9{ks:List jb}{l:List D}{us:List V}{j:Nat}{k:jb}{d:D}(h1:ks[j]? = some k)(h2:l[j]? = some d)(r:Rps K f O H l us):∃ v,(k,v)∈ks.zip us/\Rp K f O H d v:=by
 obtain⟨v,hv,rv⟩:=r.get h2;exact⟨v,aF (i:=j) (by rw [List.getElem?_zip_eq_some];exact⟨h1,hv⟩),rv⟩
theorem xC:RD X.K (AA X.K) oIx:=by
 intro f O σ ss H dx dy x y Q R rx ry h;cases dx <;> cases dy <;> first|(exact False.elim h)|skip
 ·rename_i z i;cases rx;cases ry;obtain⟨q0,c,q1,q2⟩:=h;exact .inl (.inr (.inr ⟨z,i,c,rfl,rfl,q0,q1,q2 _ H (Ex.refl R.fl) rfl⟩))
 ·rename_i l i;obtain⟨p,xs,rfl,h1,h2⟩:=rx;cases ry;obtain⟨v,d,e,r,q⟩:=itD.rp h2 h;exact .inl (.inr (.inl ⟨p,xs,i,v,rfl,rfl,h1,e,q v H (Ex.refl R.fl) r⟩))
 ·rename_i l i;obtain⟨p,xs,rfl,_,h1,h2⟩:=rx;cases ry;obtain⟨v,d,e,r,q⟩:=itD.rp h2 h;exact .inl (.inl ⟨p,xs,i,v,rfl,rfl,SqL.of h1,e,q v H (Ex.refl R.fl) r⟩)
 ·rename_i ks l i;obtain⟨p,us,rfl,_,h1,h2,h3⟩:=rx;cases ry;obtain⟨j,d,e1,e2,q⟩:=h;obtain⟨v,hm,rv⟩:=u9 e1 e2 h3;exact .inr ⟨p,_,.inl i,v,rfl,rfl,h1,hm,q v H (Ex.refl R.fl) rv⟩
 ·rename_i ks l x;obtain⟨p,us,rfl,_,h1,h2,h3⟩:=rx;cases ry;obtain⟨j,d,e1,e2,q⟩:=h;obtain⟨v,hm,rv⟩:=u9 e1 e2 h3;exact .inr ⟨p,_,.inr x,v,rfl,rfl,h1,hm,q v H (Ex.refl R.fl) rv⟩
def dIx(a b:TEd):TEd:=d2 oIx oIx.mono a b
theorem dIx.ok(ha:PE X a (LE X.K Jx ta))(hb:PE X b (LE X.K Jx tb))(hs:lL b):PE X (.Subscript a b pos) (LE X.K Jx (dIx ta tb)):=d2.ok xC (jt uM ha hb hs)
def itI(l:List D)(y:D)(Q:D->Prop):Prop:=match y with | .int j=>itD l j Q|_=>False
theorem itI.mono{l:List D}{y:D}{Q Q':D->Prop}(h:∀ d,Q d->Q' d):itI l y Q->itI l y Q':=by
 cases y <;> first|exact id|exact itD.mono h
def iC(i:Nat)(b:TEd):TEd:=⟨fun ss Q=>match ss[i]? with|some (.val d)=>b.run ss fun y=>oIx d y Q|some (.ow (.ls l))=>b.run ss fun y=>itI l y Q|_=>False,fun {ss Q Q'} h q=>by
 revert q;split
 ·exact b.mono fun y=>oIx.mono h
 ·exact b.mono fun y=>itI.mono h
 ·exact id⟩
theorem iC.ok{i:Nat}(ha:PE X a (jO i))(hb:PE X b (LE X.K Jx tb))(hs:lL b):PE X (.Subscript a b pos) (LE X.K Jx (iC i tb)):=(jt (pos:=pos) uM ha hb hs).weak fun σ H Q ⟨f,O,ss,R,q⟩=>by
 have q:(match ss[i]? with|some (.val d)=>tb.run ss fun y=>oIx d y (fun d=>∀ v H',Ex f H H'->Rp X.K f O H' d v->Q v H')|some (.ow (.ls l))=>tb.run ss fun y=>itI l y (fun d=>∀ v H',Ex f H H'->Rp X.K f O H' d v->Q v H')|_=>False):=q;split at q
 ·rename_i d e;obtain⟨v,h1,h2⟩:=R.val i d e;refine⟨v,h1,f,O,ss,R,tb.mono (fun dy q y H1 e1 r1=>?_) q⟩;exact xC f O σ ss H1 d dy v y Q (R.ex e1).tr (R.up e1 h2) r1 (oIx.mono (fun d q v H' e r=>q v H' (e1.trans e) r) q)
 ·rename_i l e;obtain⟨p,xs,h1,h2,h3,h4,h5⟩:=R.ownL i l e;refine⟨_,h1,f,O,ss,R,tb.mono (fun dy q y H1 e1 r1=>?_) q⟩;cases dy <;> first|exact False.elim q|skip
  cases r1;obtain⟨v,d,e,r,q⟩:=itD.rp (R.ups e1 h5) q;exact .inl (.inl ⟨p,xs,_,v,rfl,rfl,SqL.of (e1.sm.app p _ h3 h4),e,q v H1 e1 r⟩)
 ·exact q.elim
def n6{α:Type}(xs:List α)(lo hi:Option Int):List α:=(xs.drop (HT.jo xs.length 0 lo)).take (HT.jo xs.length xs.length hi-HT.jo xs.length 0 lo)
theorem Rps.cut{ds:List D}{xs:List V}(r:Rps K f O H ds xs)(lo hi:Option Int):Rps K f O H (n6 ds lo hi) (pf xs lo hi):=by
 unfold n6 pf;rw [r.len];exact (r.drop _).take _
def dNo:TOd:=⟨fun _ Q=>Q none,fun h q=>h _ q⟩
def fh(t:TEd):TOd:=⟨fun ss Q=>t.run ss fun d=>match d with | .int i=>Q (some i)|_=>False,fun {ss Q Q'} h q=>t.mono (fun d q=>by
 revert q;cases d <;> first|exact h _|exact id) q⟩
theorem dNo.ok:PO X none (LO X.K Jx dNo):=po_none.weak fun σ H Q ⟨f,O,ss,S,q⟩=>q H (Ex.refl S.fl)
theorem fh.ok(ha:PE X a (LE X.K Jx ta)):PO X (some a) (LO X.K Jx (fh ta)):=(qS ha).weak fun σ H Q ⟨f,O,ss,S,q⟩=>⟨f,O,ss,S,ta.mono (fun d q v H1 e r=>by
 cases d <;> first|exact False.elim q|skip
 cases r;exact⟨_,rfl,q H1 e⟩) q⟩
def slD(d:D)(lo hi:Option Int)(Q:D->Prop):Prop:=match d with
 | .lst l=>Q (.lst (n6 l lo hi))
 | .tup l=>True/\Q (.tup (n6 l lo hi))
 | .str z=>z.length<=sizeLine/\Q (.str (StrLaws.sliceText z lo hi))
 | _=>False
theorem slD.mono{d:D}{lo hi:Option Int}{Q Q':D->Prop}(h:∀ d,Q d->Q' d):slD d lo hi Q->slD d lo hi Q':=by
 cases d <;> intro q <;> first|exact h _ q|exact⟨q.1,h _ q.2⟩|exact q
theorem tR:SlR X (fun x lo hi H Q=>∃ a xs,x = .ref a/\SqT X.K H a xs/\(HT.jo xs.length 0 lo=0/\HT.jo xs.length xs.length hi=xs.length)/\Q (.ref a) H):=by
 intro pins s σ H x v vl vu lo hi sl Q I rx hs pl pu h;obtain⟨a,xs,e,hx,hw,q⟩:=h;subst e;cases rx;obtain⟨its,r,ht,hz⟩:=I.tuple hx;have hlen:its.toArray.size=xs.length:=by rw [af];exact r.length.symm
 exact⟨"tuple",_,PyProof.Rows.slot_tuple_getitem.lookup,ht.typeIs,HT.ko ht hs pl pu (by rw [hlen];exact hw) ⟨.ref a,H,I,rfl,q⟩⟩
def dSl(a:TEd)(l u:TOd):TEd:=⟨fun ss Q=>a.run ss fun d=>l.run ss fun lo=>u.run ss fun hi=>slD d lo hi Q,fun h q=>a.mono (fun d q=>l.mono (fun lo q=>u.mono (fun hi q=>slD.mono h q) q) q) q⟩
theorem dSl.ok{lo hi:Option Expr}{tl tu:TOd}{p2:Pos}(ha:PE X a (LE X.K Jx ta))(hl:PO X lo (LO X.K Jx tl))(hu:PO X hi (LO X.K Jx tu)):PE X (.Subscript a (.Slice lo hi none p2) pos) (LE X.K Jx (dSl ta tl tu)):=by
 refine (ud (pos:=pos) (p2:=p2) (sl_str.or (sl_list.or (sl_tup.or tR))) ha hl hu).weak fun σ H Q ⟨f,O,ss,S,q⟩=>?_;refine⟨f,O,ss,S,ta.mono (fun d q v H1 e1 r=>?_) q⟩;have S1:=S.ex e1;refine⟨f,O,ss,S1,tl.mono (fun lo q H2 e2=>?_) q⟩;have S2:=S1.ex e2;refine⟨f,O,ss,S2,tu.mono (fun hi q H3 e3=>?_) q⟩;have S3:=S2.ex e3;have r:=S2.up e3 (S1.up e2 r);cases d <;> first|exact False.elim q|skip
 ·cases (show v=_ from r);exact .inl ⟨_,rfl,q.1,q.2 _ _ (e1.trans (e2.trans e3)) rfl⟩
 ·have r':=r;obtain⟨p,xs,rfl,h1,h2⟩:=r;by_cases hw:HT.jo xs.length 0 lo=0/\HT.jo xs.length xs.length hi=xs.length
  ·refine .inr (.inr (.inr ⟨p,xs,rfl,h1,hw,q.2 _ _ (e1.trans (e2.trans e3)) ?_⟩));unfold n6;rw [← h2.len,hw.1,hw.2,cu,Nat.sub_zero,h2.len,bH];exact r'
  ·exact .inr (.inr (.inl ⟨p,xs,rfl,h1,hw,fun p hp=>q.2 _ _ (e1.trans (e2.trans (e3.trans (S3.new hp _)))) (S3.tup hp (h2.cut _ _))⟩))
 ·rename_i l;obtain⟨p,xs,rfl,_,h1,h2⟩:=r;exact .inr (.inl ⟨p,xs,rfl,SqL.of h1,fun p hp=>q _ _ (e1.trans (e2.trans (e3.trans (S3.new hp _)))) (S3.lst hp (h2.cut _ _))⟩)
def ic(a:TEd):TEd:=⟨fun ss Q=>a.run ss fun d=>match d with | .lst l=>Q (.lst l.reverse)|_=>False,fun {ss Q Q'} h q=>a.mono (fun d q=>by
 revert q;cases d <;> first|exact h _|exact id) q⟩
theorem ic.ok{j k:Nat}{p1 p2 p3:Pos}(ha:PE X a (LE X.K Jx ta)):PE X (.Subscript a (.Slice none none (some (.UnaryOp .USub (.Constant (.int 1) j p1) p3)) p2) pos) (LE X.K Jx (ic ta)):=by
 refine (sj (pos:=pos) (p2:=p2) (B5 X.K) ha po_none po_none (qS (xG (pos:=p3) tI (iV (j:=j) (pos:=p1))))).weak fun σ H Q ⟨f,O,ss,S,q⟩=>?_;refine⟨f,O,ss,S,ta.mono (fun d q v H1 e1 r=>?_) q⟩;have S1:=S.ex e1;cases d <;> first|exact False.elim q|skip
 rename_i l;obtain⟨p,xs,rfl,_,h1,h2⟩:=r;exact⟨_,rfl,_,rfl,rfl,rfl,rfl,p,xs,rfl,SqL.of h1,fun p hp=>q _ _ (e1.trans (S1.new hp _)) (S1.lst hp h2.reverse)⟩
abbrev BD:=List D->(D->Prop)->Prop
def dB(o:BD)(m:∀{ds Q Q'},(∀ d,Q d->Q' d)->o ds Q->o ds Q')(t:TAd):TEd:=⟨fun ss Q=>t.run ss fun ds=>o ds Q,fun h q=>t.mono (fun ds q=>m h q) q⟩
def RC(K:Frag)(r:List V->Hp->VK->Prop)(o:BD):Prop:=∀(f:Addr) (O:List Addr) (σ:St) (ss:SS) (H:Hp) (ds:List D) (vs:List V) (Q:VK),SlD K (fun _=>True) f O σ H ss->Rps K f O H ds vs->o ds (fun d=>∀ v H',Ex f H H'->Rp K f O H' d v->Q v H')->r vs H Q
theorem dB.ok{e:Expr}{r:List V->Hp->VK->Prop}{o:BD}{m}{t:TAd}(hr:RC X.K r o)(h:PE X e (BZ r (LA X.K Jx t))):PE X e (LE X.K Jx (dB o m t)):=h.weak fun σ H Q ⟨f,O,ss,S,q⟩ =>
 ⟨f,O,ss,S,t.mono (fun ds q vs H1 e1 r1=>hr f O σ ss H1 ds vs Q (S.ex e1).tr r1 (m (fun d q v H' e r=>q v H' (e1.trans e) r) q)) q⟩
def RB(X:Cx)(g:Value)(o:BD):Prop:=∃ r,CallR X g r/\RC X.K r o
theorem CallR.or2{g:Value}{r r':List V->Hp->VK->Prop}(h:CallR X g r)(h':CallR X g r'):CallR X g (fun xs H Q=>r xs H Q\/r' xs H Q):=fun pins s σ H xs us Q I rx q=>q.elim (h pins s σ H xs us Q I rx) (h' pins s σ H xs us Q I rx)
def bLen:BD
 | [.lst l],Q=>Q (.int l.length)
 | [.tup l],Q=>Q (.int l.length)
 | [.str z],Q=>z.length<=sizeLine/\Q (.int z.length)
 | _,_=>False
def bAbs:BD
 | [.int i],Q=>Q (.int (if i<0 then -i else i))
 | _,_=>False
def bAll:BD
 | [.lst l],Q=>∃ bs:List Bool,l=bs.map D.bl/\Q (.bl (bs.all id))
 | _,_=>False
def bMax:BD
 | [.int i,.int j],Q=>Q (.int (if j > i then j else i))
 | [.lst l],Q=>∃ ns:List Int,l=ns.map D.int/\ns≠[]/\∀ M,M∈ns->(∀ a∈ns,a<=M)->Q (.int M)
 | _,_=>False
def bInt:BD
 | [.int i],Q=>Q (.int i)
 | [.bl k],Q=>Q (.int (if k then 1 else 0))
 | [.str z],Q=>∃ n,intText? z=some n/\z.length<=640/\Q (.int n)
 | _,_=>False
def bTuple:BD
 | [.lst l],Q=>Q (.tup l)
 | [.tup l],Q=>Q (.tup l)
 | _,_=>False
end Dp
set_option maxHeartbeats 1000000
set_option maxHeartbeats 1000000
set_option maxHeartbeats 1000000
namespace Dp
open PySem L2
variable{K:Frag}{Jx:Hp->Prop}{f:Addr}{O O':List Addr}{H H':Hp}{X:Cx}{σ:St}{ss:SS}{a b c:Expr}{ta tb tc:TEd}{tA tB:TTd}{pos:Pos}
theorem Rps.one{d:D}{vs:List V}(h:Rps K f O H [d] vs):∃ v,vs=[v]/\Rp K f O H d v:=by
 obtain⟨v,r,e,h1,h2⟩:=h;cases (show r=[] from h2);exact⟨v,e,h1⟩
theorem Rps.two{d d':D}{vs:List V}(h:Rps K f O H [d,d'] vs):∃ v v',vs=[v,v']/\Rp K f O H d v/\Rp K f O H d' v':=by
 obtain⟨v,r,e,h1,h2⟩:=h;obtain⟨w,e2,h3⟩:=Rps.one h2;subst e2;exact⟨v,w,e,h1,h3⟩
theorem bLen.mono:∀{ds Q Q'},(∀ d,Q d->Q' d)->bLen ds Q->bLen ds Q':=by
 intro ds Q Q' h;unfold bLen;split <;> first|exact h _|exact fun q=>⟨q.1,h _ q.2⟩|exact id
theorem bAbs.mono:∀{ds Q Q'},(∀ d,Q d->Q' d)->bAbs ds Q->bAbs ds Q':=by
 intro ds Q Q' h;unfold bAbs;split <;> first|exact h _|exact id
theorem bAll.mono:∀{ds Q Q'},(∀ d,Q d->Q' d)->bAll ds Q->bAll ds Q':=by
 intro ds Q Q' h;unfold bAll;split <;> first|exact fun⟨bs,e,q⟩=>⟨bs,e,h _ q⟩|exact id
theorem bMax.mono:∀{ds Q Q'},(∀ d,Q d->Q' d)->bMax ds Q->bMax ds Q':=by
 intro ds Q Q' h;unfold bMax;split <;> first|exact h _|exact fun⟨bs,e,n,q⟩=>⟨bs,e,n,fun M m l=>h _ (q M m l)⟩|exact id
theorem bInt.mono:∀{ds Q Q'},(∀ d,Q d->Q' d)->bInt ds Q->bInt ds Q':=by
 intro ds Q Q' h;unfold bInt;split <;> first|exact h _|exact fun⟨n,e,l,q⟩=>⟨n,e,l,h _ q⟩|exact id
theorem bTuple.mono:∀{ds Q Q'},(∀ d,Q d->Q' d)->bTuple ds Q->bTuple ds Q':=by
 intro ds Q Q' h;unfold bTuple;split <;> first|exact h _|exact id
theorem tX:RB X (.builtin "len") bLen:=by
 refine⟨_,CallR.or2 (sJ X.K) oe,fun f O σ ss H ds vs Q S r h=>?_⟩;unfold bLen at h;split at h
 ·obtain⟨v,rfl,p,xs,rfl,_,h1,h2⟩:=Rps.one r;refine .inl ⟨p,xs,rfl,.inl (SqL.of h1),?_⟩;rw [h2.len];exact h _ H (Ex.refl S.fl) rfl
 ·obtain⟨v,rfl,p,xs,rfl,h1,h2⟩:=Rps.one r;refine .inl ⟨p,xs,rfl,.inr h1,?_⟩;rw [h2.len];exact h _ H (Ex.refl S.fl) rfl
 ·obtain⟨v,rfl,e⟩:=Rps.one r;cases e;exact .inr ⟨_,rfl,h.1,h.2 _ H (Ex.refl S.fl) rfl⟩
 ·exact h.elim
theorem yy:RB X (.builtin "abs") bAbs:=by
 refine⟨_,vg,fun f O σ ss H ds vs Q S r h=>?_⟩;unfold bAbs at h;split at h
 ·obtain⟨v,rfl,e⟩:=Rps.one r;cases e;exact⟨_,rfl,h _ H (Ex.refl S.fl) rfl⟩
 ·exact h.elim
theorem yx(hc:X.calm=true):RB X (.builtin "all") bAll:=by
 refine⟨_,Bo X.K hc,fun f O σ ss H ds vs Q S r h=>?_⟩;unfold bAll at h;split at h
 ·obtain⟨bs,rfl,h⟩:=h;obtain⟨v,rfl,p,xs,rfl,_,h1,h2⟩:=Rps.one r;cases h2.bls;exact⟨p,bs,rfl,SqL.of h1,h _ H (Ex.refl S.fl) rfl⟩
 ·exact h.elim
theorem yv(hc:X.calm=true):RB X (.builtin "max") bMax:=by
 refine⟨_,CallR.or2 (tf hc) (Ch X.K hc),fun f O σ ss H ds vs Q S r h=>?_⟩;unfold bMax at h;split at h
 ·obtain⟨v,v',rfl,e1,e2⟩:=Rps.two r;cases e1;cases e2;exact .inl ⟨_,_,rfl,h _ H (Ex.refl S.fl) rfl⟩
 ·obtain⟨bs,rfl,n,h⟩:=h;obtain⟨v,rfl,p,xs,rfl,_,h1,h2⟩:=Rps.one r;cases h2.ints;exact .inr ⟨p,bs,rfl,SqL.of h1,n,fun M m l=>h M m l _ H (Ex.refl S.fl) rfl⟩
 ·exact h.elim
theorem yw:RB X (.type "int") bInt:=by
 refine⟨_,CallR.or2 tj tm,fun f O σ ss H ds vs Q S r h=>?_⟩;unfold bInt at h;split at h
 ·obtain⟨v,rfl,e⟩:=Rps.one r;cases e;exact .inr (.inl ⟨_,rfl,h _ H (Ex.refl S.fl) rfl⟩)
 ·obtain⟨v,rfl,e⟩:=Rps.one r;cases e;exact .inr (.inr ⟨_,rfl,h _ H (Ex.refl S.fl) rfl⟩)
 ·obtain⟨v,rfl,e⟩:=Rps.one r;cases e;obtain⟨n,h1,h2,q⟩:=h;exact .inl ⟨_,n,rfl,h1,h2,q _ H (Ex.refl S.fl) rfl⟩
 ·exact h.elim
theorem tW:RB X (.type "tuple") bTuple:=by
 refine⟨_,vF X.K,fun f O σ ss H ds vs Q S r h=>?_⟩;unfold bTuple at h;split at h
 ·obtain⟨v,rfl,p,xs,rfl,_,h1,h2⟩:=Rps.one r;exact⟨p,xs,rfl,.inl ⟨SqL.of h1,fun l hl=>h _ _ (S.new hl _) (S.tup hl h2)⟩⟩
 ·obtain⟨v,rfl,p,xs,rfl,h1,h2⟩:=Rps.one r;exact⟨p,xs,rfl,.inr ⟨h1,h _ H (Ex.refl S.fl) ⟨p,xs,rfl,h1,h2⟩⟩⟩
 ·exact h.elim
def AW:jb->D
 | .inl i=>.int i
 | .inr x=>.str x
theorem xj:bootBuiltins "dict" = some (.type "dict"):=by decide +kernel
structure BB where
 run:BD
 mono:∀{ds Q Q'},(∀ d,Q d->Q' d)->run ds Q->run ds Q'
inductive Ty where
 | int|bool|tuple|list|str|dict
def Ty.nm:Ty->String
 | .int => "int" | .bool => "bool" | .tuple => "tuple" | .list => "list" | .str => "str" | .dict => "dict"
def C1:Ty->D->Option Bool
 | _,.fl=>none
 | _,.exn _ _ _=>none
 | .dict,.dct _ _=>some true
 | _,.dct _ _=>none
 | _,.fn _=>none
 | .int,.int _=>some true | .int,.bl _=>some true | .bool,.bl _=>some true | .tuple,.tup _=>some true | .list,.lst _=>some true | .str,.str _=>some true
 | _,_=>some false
def tyTab:List (Str×Ty):=[("int",.int),("bool",.bool),("tuple",.tuple),("list",.list),("str",.str),("dict",.dict)]
def pH(x:Str):Option Ty:=tyTab.lookup x
def ig(y:Ty)(t:TEd):TEd:=⟨fun ss Q=>t.run ss fun d=>match C1 y d with|some b=>Q (.bl b)|none=>False,fun {ss Q Q'} h q=>t.mono (fun d q=>by
 revert q;split
 ·exact h _
 ·exact id) q⟩
theorem rR(B:Bl X.mg){x:Str}{y:Ty}(h:pH x=some y):X.mg x=none/\x ≠ "__name__" /\ (x == ("__debug__" : Str))=false/\bootBuiltins x=some (.type y.nm):=by
 have m:=i9 h;unfold tyTab at m;rcases ah.mp m with e|m
 ·cases e;exact⟨B.int,by decide,by decide,vn⟩
 rcases ah.mp m with e|m
 ·cases e;exact⟨B.bool,by decide,by decide,oi⟩
 rcases ah.mp m with e|m
 ·cases e;exact⟨B.tuple,by decide,by decide,ka⟩
 rcases ah.mp m with e|m
 ·cases e;exact⟨B.list,by decide,by decide,jW⟩
 rcases ah.mp m with e|m
 ·cases e;exact⟨B.str,by decide,by decide,zy⟩
 rcases ah.mp m with e|m
 ·cases e;exact⟨B.dict,by decide,by decide,xj⟩
 cases m
theorem zj{y:Ty}{d:D}{v:V}{b:Bool}(h:C1 y d=some b)(r:Rp K f O H d v):∃ t,zJ K H v t/\PySem.W.kitOne K t (.type y.nm)=some b:=by
 cases d;case non=>cases (show v=_ from r);cases y <;> cases h <;> exact⟨_,.inl .non,rfl⟩
 case bl=>cases (show v=_ from r);cases y <;> cases h <;> exact⟨_,.inl (.bl _),rfl⟩
 case int=>cases (show v=_ from r);cases y <;> cases h <;> exact⟨_,.inl (.int _),rfl⟩
 case str=>cases (show v=_ from r);cases y <;> cases h <;> exact⟨_,.inl (.str _),rfl⟩
 case tup =>
  obtain⟨a,xs,rfl,h1,h2⟩:=r;cases y <;> cases h <;> exact⟨_,.inr (.inl ⟨a,xs,rfl,h1,rfl⟩),rfl⟩
 case lst =>
  obtain⟨a,xs,rfl,_,h1,h2⟩:=r;cases y <;> cases h <;> exact⟨_,.inr (.inr ⟨a,xs,rfl,SqL.of h1,rfl⟩),rfl⟩
 case fl=>cases y <;> cases h
 case exn=>cases y <;> cases h
 case dct =>
  obtain⟨a,us,rfl,_,h1,_⟩:=r;cases y <;> cases h;exact⟨_,.inl (.dK h1),rfl⟩
 case fn=>cases y <;> cases h
theorem ig.ok(B:Bl X.mg){x:Str}{y:Ty}{p p2:Pos}(hy:pH x=some y)(hg:Gl X "isinstance")(hx:Gl X x)(ha:PE X a (LE X.K Jx ta))(hs:∀ es,starEach (a::es) X.env=(false,eval a X.env)::starEach es X.env):PE X (.Call (.Name "isinstance" p) [a,.Name x p2] [] pos) (LE X.K Jx (ig y ta)):=by
 obtain⟨h1,h2,h3,h4⟩:=rR B hy;refine (i7 (p:=p) (pos:=pos) (zi X.K) hg B.isinstance i5 (iS ha (iS (jx (v:=.ty y.nm) (pos:=p2) hx h1 h4 rfl h2 h3) pa_nil rfl) (hs _)) (by decide) (by decide) (hs _) rfl).weak fun σ H Q ⟨f,O,ss,S,q⟩=>⟨f,O,ss,S,ta.mono (fun d q v H1 e r=>?_) q⟩;revert q;split
 ·rename_i b eb;intro q;obtain⟨t,t1,t2⟩:=zj eb r;exact⟨v,y.nm,t,b,rfl,t1,t2,q _ H1 e rfl⟩
 ·exact False.elim
def gq(i:Nat):TEd:=⟨fun ss Q=>match ss[i]? with|some (.val d)=>bLen [d] Q|some (.ow (.ls l))=>Q (.int l.length)|_=>False,fun {ss Q Q'} h q=>by
 revert q;split
 ·exact bLen.mono h
 ·exact h _
 ·exact id⟩
theorem gq.ok{i:Nat}{p:Pos}(hg:Gl X "len")(hm:X.mg "len" = none)(ha:PE X a (jO i))(hs:starEach [a] X.env=[(false,eval a X.env)]):PE X (.Call (.Name "len" p) [a] [] pos) (LE X.K Jx (gq i)):=by
 obtain⟨r,h1,h2⟩:=tX (X:=X);refine (i7 (p:=p) (pos:=pos) (CallR.or2 h1 (sJ X.K)) hg hm ln (iS ha pa_nil hs) (by decide) (by decide) hs rfl).weak fun σ H Q ⟨f,O,ss,S,q⟩=>?_;have q:(match ss[i]? with|some (.val d)=>bLen [d] (fun d=>∀ v H',Ex f H H'->Rp X.K f O H' d v->Q v H')|some (.ow (.ls l))=>(∀ v H',Ex f H H'->Rp X.K f O H' (.int l.length) v->Q v H')|_=>False):=q;split at q
 ·rename_i d e;obtain⟨v,w1,w2⟩:=S.val i d e;exact⟨v,w1,.inl (h2 f O σ ss H [d] [v] Q S.tr ⟨v,[],rfl,w2,rfl⟩ q)⟩
 ·rename_i l e;obtain⟨p0,xs,w1,w2,w3,w4,w5⟩:=S.ownL i l e;refine⟨_,w1,.inr ⟨p0,xs,rfl,.inl (SqL.of w4),?_⟩⟩;rw [w5.len];exact q _ H (Ex.refl S.fl) rfl
 ·exact q.elim
structure SpB where
 n:Nat
 run:BH
 mono:∀{ds Q Q'},(∀ d,Q d->Q' d)->run ds Q->run ds Q'
def SpB.of(n:Nat){α:Type}(pre:α->List D->Prop)(post:α->D->Prop):SpB:=⟨n,fun ds Q=>∃ x,pre x ds/\∀ d,post x d->Q d,fun h ⟨x,p,q⟩=>⟨x,p,fun d r=>h _ (q d r)⟩⟩
def dh(s:SpB)(t:TAd):TEd:=⟨fun ss Q=>t.run ss fun ds=>ds.length=s.n/\s.run ds Q,fun h q=>t.mono (fun ds q=>⟨q.1,s.mono h q.2⟩) q⟩
theorem dh.ok{e:Expr}{s:SpB}{t:TAd}(h:PE X e (kK (ms X.K s.n s.run) [] E0 (LA X.K Jx t))):PE X e (LE X.K Jx (dh s t)):=h.weak fun σ H Q ⟨f,O,ss,S,q⟩ =>
 ⟨f,O,ss,S,t.mono (fun ds q vs H1 e1 r1=>by
  have S1:=S.ex e1;refine⟨by rw [aL,r1.len];exact q.1,f,O,ds,S1.fl,S1.fO,S1.al,S1.lO,by rw [aL];exact r1,?_⟩;exact s.mono (fun d q v H' e r=>q v H' (e1.trans e) r) q.2) q⟩
end Dp
namespace Dp
open PySem L2
variable{K:Frag}{Jx:Hp->Prop}{f:Addr}{O O':List Addr}{H H':Hp}{X:Cx}{σ:St}{ss:SS}{a b c:Expr}{ta tb tc:TEd}{tA tB:TTd}{pos:Pos}
mutual
theorem Rp.moved(e:∀ a∈O',a∈O\/H a=none)(k:Kp O H H')(hO:∀ b∈O,Ow H b):∀{d:D} {v:V},Rp K f O H d v->Rp K f O' H' d v
 | .non,_,h=>h
 | .bl _,_,h=>h
 | .int _,_,h=>h
 | .str _,_,h=>h
 | .fl,_,h=>h
 | .fn _,_,h=>h
 | .tup l,v,h=>by
  obtain⟨a,xs,e1,h1,h2⟩:=h;exact⟨a,xs,e1,h1.kp k hO,Rps.moved e k hO h2⟩
 | .lst l,v,h=>by
  obtain⟨a,xs,e1,n,h1,h2⟩:=h;refine⟨a,xs,e1,fun z=>?_,k a _ n h1,Rps.moved e k hO h2⟩;rcases e a z with q|q
  ·exact n q
  ·rw [h1] at q;cases q
 | .exn C x l,v,h=>by
  obtain⟨a,us,e1,h1,h2⟩:=h;exact⟨a,us,e1,h1.kp k hO,Rps.moved e k hO h2⟩
 | .dct ks l,v,h=>by
  obtain⟨a,us,e1,n,h1,h2,h3⟩:=h;refine⟨a,us,e1,fun z=>?_,k a _ n h1,h2,Rps.moved e k hO h3⟩;rcases e a z with q|q
  ·exact n q
  ·rw [h1] at q;cases q
theorem Rps.moved(e:∀ a∈O',a∈O\/H a=none)(k:Kp O H H')(hO:∀ b∈O,Ow H b):∀{ds:List D} {vs:List V},Rps K f O H ds vs->Rps K f O' H' ds vs
 | [],_,h=>h
 | d::ds,_,h=>by
  obtain⟨v,r,e1,h1,h2⟩:=h;exact⟨v,r,e1,Rp.moved e k hO h1,Rps.moved e k hO h2⟩
end
structure ItD (K:Frag)(f:Addr)(O:List Addr)(J:It)(H1:Hp)(ds:List D):Prop where
 go:∀ H' i,Kp O H1 H'->i<ds.length->J.go i H'
 yld:∀ O' H' i x H'',(∀ a∈O',a∈O\/H1 a=none)->f∈O'->(∀ a∈O',Ow H' a)->Kp O H1 H'->Fl H' f->i<ds.length->J.yld i H' x H''->∃ d,ds[i]? = some d/\Ex f H' H''/\Rp K f O' H'' d x
 stop:∀ H',Kp O H1 H'->J.stop ds.length H'
def LI(K:Frag)(Jx:Hp->Prop)(t:TAd):TI:=fun σ H R=>∃ f O ss,SlD K Jx f O σ H ss/\t.run ss fun ds=>∀ J H1,Ex f H H1->ItD K f O J H1 ds->R J H1
theorem _root_.L2.PI.weak{tg e:Expr}{t t':TI}(h:PI X tg e t)(w:∀ σ H Q,t' σ H Q->t σ H Q):PI X tg e t':=fun pins s σ H Q I q=>h pins s σ H Q I (w σ H Q q)
def qN(z:Str):List D:=z.cps.toList.map fun c=>.str ⟨#[c]⟩
theorem mJ{z:Str}:(qN z).length=z.cps.size:=by simp [qN]
def itemsD:D->(List D->Prop)->Prop
 | .lst l,Q=>Q l
 | .tup l,Q=>Q l
 | .str z,Q=>Q (qN z)
 | _,_=>False
def itemsS:D->(List D->Prop)->Prop
 | .lst l,Q=>Q l
 | .tup l,Q=>Q l
 | _,_=>False
theorem itemsS.mono{d:D}{Q Q':List D->Prop}(h:∀ d,Q d->Q' d):itemsS d Q->itemsS d Q':=by
 cases d <;> first|exact h _|exact id
theorem itemsD.mono{d:D}{Q Q':List D->Prop}(h:∀ d,Q d->Q' d):itemsD d Q->itemsD d Q':=by
 cases d <;> first|exact h _|exact id
def dU(t:TEd):TAd:=⟨fun ss Q=>t.run ss fun d=>itemsD d Q,fun h q=>t.mono (fun d q=>itemsD.mono h q) q⟩
theorem dU.ok{tg:Expr}(h:PE X a (LE X.K Jx ta)):PI X tg a (LI X.K Jx (dU ta)):=(Dq h).weak fun σ H R ⟨f,O,ss,S,q⟩=>⟨f,O,ss,S,ta.mono (fun d q v H1 e r=>by
 have S1:=S.ex e;cases d <;> first|exact False.elim q|skip
 ·rename_i z;cases (show v=_ from r);refine .inr ⟨z,rfl,q _ H1 e ⟨fun H' i k hi=>?_,fun O' H' i x H'' hO hf al k F hi y=>?_,fun H' k=>?_⟩⟩
  ·rw [mJ] at hi;exact hi
  ·obtain⟨rfl,c,hc,rfl⟩:=y;refine⟨.str ⟨#[c]⟩,?_,Ex.refl F,rfl⟩;unfold qN;rw [aA,bX,hc];rfl
  ·exact mJ
 ·rename_i l;obtain⟨p,xs,rfl,h1,h2⟩:=r;refine .inl ⟨p,rfl,.inr ⟨⟨xs,h1⟩,q _ H1 e ⟨fun H' i k hi=>?_,fun O' H' i x H'' hO hf al k F hi y=>?_,fun H' k=>?_⟩⟩⟩
  ·obtain⟨v,hv,_⟩:=h2.get (show l[i]? = some l[i] by simp [hi]);exact⟨xs,v,h1.kp k S1.al,hv⟩
  ·obtain⟨rfl,y⟩:=y;obtain⟨v,hv,r⟩:=h2.get (show l[i]? = some l[i] by simp [hi]);have:=y xs (h1.kp k S1.al);rw [hv] at this;cases this;exact⟨l[i],by simp [hi],Ex.refl F,r.moved hO k S1.al⟩
  ·exact⟨xs,h1.kp k S1.al,by rw [h2.len];exact ai _⟩
 ·rename_i l;obtain⟨p,xs,rfl,n,h1,h2⟩:=r;refine .inl ⟨p,rfl,.inl ⟨⟨xs,SqL.of h1⟩,q _ H1 e ⟨fun H' i k hi=>?_,fun O' H' i x H'' hO hf al k F hi y=>?_,fun H' k=>?_⟩⟩⟩
  ·obtain⟨v,hv,_⟩:=h2.get (show l[i]? = some l[i] by simp [hi]);exact⟨xs,v,SqL.of (k p _ n h1),hv⟩
  ·obtain⟨rfl,y⟩:=y;obtain⟨v,hv,r⟩:=h2.get (show l[i]? = some l[i] by simp [hi]);have:=y xs (SqL.of (k p _ n h1));rw [hv] at this;cases this;exact⟨l[i],by simp [hi],Ex.refl F,r.moved hO k S1.al⟩
  ·exact⟨xs,SqL.of (k p _ n h1),by rw [h2.len];exact ai _⟩) q⟩
def oC(lo:Int)(n:Nat):List D:=(List.range n).map fun i=>.int (lo+(i:Nat))
theorem jp{lo:Int}{n:Nat}:(oC lo n).length=n:=by simp [oC]
theorem oB{lo:Int}{n i:Nat}(h:i<n):(oC lo n)[i]? = some (.int (lo+(i:Nat))):=by simp [oC,h]
theorem j3{lo:Int}{n i:Nat}{d:D}(h:(oC lo n)[i]? = some d):i<n/\d = .int (lo+(i:Nat)):=by
 have:=(aq.mp h).1;rw [jp] at this;rw [oB this] at h;exact⟨this,(Option.some.inj h).symm⟩
theorem rm{lo:Int}{n:Nat}{H1:Hp}:ItD K f O (zV lo n) H1 (oC lo n):=by
 refine⟨fun H' i k hi=>?_,fun O' H' i x H'' hO hf al k F hi y=>?_,fun H' k=>?_⟩
 ·rw [jp] at hi;exact hi
 ·obtain⟨rfl,rfl⟩:=y;rw [jp] at hi;exact⟨_,oB hi,Ex.refl F,rfl⟩
 ·rw [jp];exact ai _
def rngD:D->(List D->Prop)->Prop
 | .int j,Q => -(2^62)<=j/\j<2^62/\Q (oC 0 j.toNat)
 | _,_=>False
theorem rngD.mono{d:D}{Q Q':List D->Prop}(h:∀ d,Q d->Q' d):rngD d Q->rngD d Q':=by
 cases d <;> first|exact fun q=>⟨q.1,q.2.1,h _ q.2.2⟩|exact id
def rngD2:D->D->(List D->Prop)->Prop
 | .int i,.int j,Q=>(-(2^62)<=i/\i<2^62 /\ -(2^62)<=j/\j<2^62)/\Q (oC i (j-i).toNat)
 | _,_,_=>False
theorem rngD2.mono{d d':D}{Q Q':List D->Prop}(h:∀ d,Q d->Q' d):rngD2 d d' Q->rngD2 d d' Q':=by
 cases d <;> cases d' <;> first|exact fun q=>⟨q.1,h _ q.2⟩|exact id
def fH(t:TEd):TAd:=⟨fun ss Q=>t.run ss fun d=>rngD d Q,fun h q=>t.mono (fun d q=>rngD.mono h q) q⟩
def gr(t u:TEd):TAd:=⟨fun ss Q=>t.run ss fun d=>u.run ss fun d'=>rngD2 d d' Q,fun h q=>t.mono (fun d q=>u.mono (fun d' q=>rngD2.mono h q) q) q⟩
theorem fH.ok{tg:Expr}{p:Pos}(hg:Gl X "range")(hm:X.mg "range" = none)(ha:PE X a (LE X.K Jx ta))(hs:starEach [a] X.env=[(false,eval a X.env)]):PI X tg (.Call (.Name "range" p) [a] [] pos) (LI X.K Jx (fH ta)) :=
 (mM (p:=p) (pos:=pos) hg hm (iS ha pa_nil hs) hs).weak fun σ H R ⟨f,O,ss,S,q⟩=>⟨f,O,ss,S,ta.mono (fun d q v H1 e r=>by
  cases d <;> first|exact False.elim q|skip
  cases (show v=_ from r);exact⟨_,rfl,q.1,q.2.1,q.2.2 _ H1 e rm⟩) q⟩
theorem gr.ok{tg:Expr}{p:Pos}(hg:Gl X "range")(hm:X.mg "range" = none)(ha:PE X a (LE X.K Jx ta))(hb:PE X b (LE X.K Jx tb))(hs:starEach [a,b] X.env=[(false,eval a X.env),(false,eval b X.env)])(hs2:starEach [b] X.env=[(false,eval b X.env)]):PI X tg (.Call (.Name "range" p) [a,b] [] pos) (LI X.K Jx (gr ta tb)) :=
 (sh (p:=p) (pos:=pos) hg hm (iS ha (iS hb pa_nil hs2) (by rw [hs,hs2])) hs hs2).weak fun σ H R ⟨f,O,ss,S,q⟩=>⟨f,O,ss,S,ta.mono (fun d q v H1 e r=>⟨f,O,ss,S.ex e,tb.mono (fun d' q v' H2 e2 r'=>by
  cases d <;> cases d' <;> first|exact False.elim q|skip
  cases (show v=_ from r);cases (show v'=_ from r');exact⟨_,_,rfl,q.1,q.2 _ H2 (e.trans e2) rm⟩) q⟩) q⟩
def Sub(σ:St)(ss:SS)(σ':St)(ss':SS):Prop:=∀(i:Nat) (l:OB),ss'[i]? = some (SD.ow l)->ss[i]? = some (SD.ow l)/\σ'[i]? = σ[i]?
theorem Sub.refl:Sub σ ss σ ss:=fun _ _ h=>⟨h,rfl⟩
theorem Sub.trans{σ1 σ2:St}{s1 s2:SS}(h:Sub σ ss σ1 s1)(k:Sub σ1 s1 σ2 s2):Sub σ ss σ2 s2:=fun i l q=>by
 obtain⟨q1,e1⟩:=k i l q;obtain⟨q2,e2⟩:=h i l q1;exact⟨q2,e1.trans e2⟩
def Agr(T:List Nat)(σ σ':St):Prop:=σ'.length=σ.length/\∀ j,j ∉ T->σ'[j]? = σ[j]?
theorem Agr.refl{T:List Nat}:Agr T σ σ:=⟨rfl,fun _ _=>rfl⟩
theorem Agr.set{T:List Nat}{i:Nat}{v:Option V}(h:i∈T):Agr T σ (σ.set i v):=⟨aO,fun j n=>ax (by rintro rfl;exact n h)⟩
theorem Agr.trans{T:List Nat}{σ1 σ2:St}(a:Agr T σ σ1)(b:Agr T σ1 σ2):Agr T σ σ2:=⟨b.1.trans a.1,fun j n=>(b.2 j n).trans (a.2 j n)⟩
def LG(K:Frag)(Jx:Hp->Prop)(t:TGd):TG:=fun v σ H Q=>∃ f O ss d,SlD K Jx f O σ H ss/\Rp K f O H d v/\t.run d ss fun ss'=>∀ σ' H',Ex f H H'->SlD K Jx f O σ' H' ss'->Sub σ ss σ' ss'->Agr t.tg σ σ'->Q σ' H'
theorem SlD.set(S:SlD K Jx f O σ H ss){i:Nat}{d:D}{v:V}(r:Rp K f O H d v):SlD K Jx f O (σ.set i (some v)) H (ss.set i (.val d)) where
 j:=S.j
 fl:=S.fl
 fO:=S.fO
 al:=S.al
 lO:=S.lO
 len:=by rw [aO,aO,S.len]
 val:=fun j d' h=>by
  by_cases z:i=j
  ·subst z;rw [ay] at h;rw [if_pos rfl] at h;split at h
   ·cases h;rename_i l;exact⟨v,by rw [ay,if_pos rfl,if_pos (by rw [← S.len];exact l)],r⟩
   ·cases h
  ·rw [ax z] at h ⊢;exact S.val j d' h
 own:=fun j l h=>by
  by_cases z:i=j
  ·subst z;rw [ay] at h;rw [if_pos rfl] at h;split at h <;> cases h
  ·rw [ax z] at h ⊢;exact S.own j l h
theorem Sub.set{i:Nat}{d:D}{v:Option V}:Sub σ ss (σ.set i v) (ss.set i (.val d)):=fun j l h=>by
 by_cases z:i=j
 ·subst z;rw [ay] at h;rw [if_pos rfl] at h;split at h <;> cases h
 ·rw [ax z] at h ⊢;exact⟨h,rfl⟩
def gNm(i:Nat):TGd:=⟨[i],fun d ss Q=>Q (ss.set i (.val d)),fun h q=>h _ q⟩
theorem _root_.L2.PG.weak{e:Expr}{t t':TG}(h:PG X e t)(w:∀ v σ H Q,t' v σ H Q->t v σ H Q):PG X e t':=fun pins s σ H v u Q I r q=>h pins s σ H v u Q I r (w _ σ H Q q)
end Dp
namespace Dp
open PySem L2
variable{K:Frag}{Jx:Hp->Prop}{f:Addr}{O O':List Addr}{H H':Hp}{X:Cx}{σ:St}{ss:SS}{a b c:Expr}{ta tb tc:TEd}{tA tB:TTd}{pos:Pos}
theorem gNm.ok{i:Nat}{e:Expr}(h:PG X e (m9 i)):PG X e (LG X.K Jx (gNm i)):=h.weak fun v σ H Q ⟨f,O,ss,d,S,r,q⟩=>q _ H (Ex.refl S.fl) (S.set r) Sub.set (Agr.set av)
def lR(ss:SS):List Nat->List D->SS
 | i::is,d::ds=>lR (ss.set i (.val d)) is ds
 | _,_=>ss
def gsAll:List Nat->xW
 | []=>A9
 | i::is=>xS (m9 i) (gsAll is)
def kg(σ:St):List Nat->List V->St
 | i::is,v::vs=>kg (σ.set i (some v)) is vs
 | _,_=>σ
theorem gsAll.run{Q:St->Hp->Prop}:∀{is:List Nat} {vs:List V} {σ:St},vs.length=is.length->Q (kg σ is vs) H->gsAll is vs σ H Q
 | [],[],σ,_,q=>⟨rfl,q⟩
 | [],_::_,_,l,_=>by cases l
 | _::_,[],_,l,_=>by cases l
 | i::is,v::vs,σ,l,q=>⟨v,vs,rfl,gsAll.run (by simpa using l) q⟩
theorem SlD.all:∀{is:List Nat} {vs:List V} {ds:List D} {σ:St} {ss:SS},SlD K Jx f O σ H ss->Rps K f O H ds vs->SlD K Jx f O (kg σ is vs) H (lR ss is ds)
 | [],_,_,_,_,S,_=>S
 | i::is,[],[],_,_,S,_=>S
 | i::is,vs,[],_,_,S,r=>by cases (show vs=[] from r);exact S
 | i::is,vs,d::ds,σ,ss,S,r=>by
  obtain⟨v,r',e,h1,h2⟩:=r;subst e;show SlD K Jx f O (kg (σ.set i (some v)) is r') H (lR (ss.set i (.val d)) is ds);exact SlD.all (S.set h1) h2
theorem Sub.all:∀{is:List Nat} {vs:List V} {ds:List D} {σ:St} {ss:SS},vs.length=ds.length->Sub σ ss (kg σ is vs) (lR ss is ds)
 | [],_,_,_,_,_=>Sub.refl
 | i::is,[],[],_,_,_=>Sub.refl
 | i::is,_::_,[],_,_,l=>by cases l
 | i::is,[],_::_,_,_,l=>by cases l
 | i::is,v::vs,d::ds,σ,ss,l=>Sub.trans Sub.set (Sub.all (by simpa using l))
theorem Agr.all:∀{is T:List Nat} {vs:List V} {σ:St},(∀ i∈is,i∈T)->Agr T σ (kg σ is vs)
 | [],_,_,_,_=>Agr.refl
 | _::_,_,[],_,_=>Agr.refl
 | i::is,T,v::vs,σ,h=>Agr.trans (Agr.set (h i av)) (Agr.all fun j hj=>h j (ar _ hj))
def gTp(is:List Nat):TGd:=⟨is,fun d ss Q=>match d with | .tup l=>l.length=is.length/\Q (lR ss is l)|_=>False,fun {d ss Q Q'} h q=>by
 revert q;cases d <;> first|exact id|exact fun q=>⟨q.1,h _ q.2⟩⟩
theorem gTp.ok{is:List Nat}{e:Expr}(h:PG X e (A7 X.K is.length (gsAll is))):PG X e (LG X.K Jx (gTp is)):=h.weak fun v σ H Q ⟨f,O,ss,d,S,r,q⟩=>by
 cases d <;> first|exact False.elim q|skip
 rename_i l;obtain⟨p,xs,rfl,h1,h2⟩:=r;exact⟨p,xs,rfl,h1,h2.len.trans q.1,gsAll.run (h2.len.trans q.1) (q.2 _ H (Ex.refl S.fl) (S.all h2) (Sub.all h2.len) (Agr.all fun _ h=>h))⟩
def ma(l:List D):List D:=(List.range l.length).map fun i=>.tup [.int ((i:Nat):Int),l.getD i .non]
theorem ju{l:List D}:(ma l).length=l.length:=by simp [ma]
theorem lc{l:List D}{i:Nat}(h:i<l.length):(ma l)[i]? = some (.tup [.int ((i:Nat):Int),l.getD i .non]):=by simp [ma,h]
theorem sX{l:List D}{i:Nat}{d:D}(h:(ma l)[i]? = some d):∃ x,l[i]? = some x/\d = .tup [.int ((i:Nat):Int),x]:=by
 have hi:=(aq.mp h).1;rw [ju] at hi;rw [lc hi] at h;refine⟨l[i],by simp [hi],(Option.some.inj h).symm.trans ?_⟩;rw [bA,aw hi];rfl
def fX(t:TEd):TAd:=⟨fun ss Q=>t.run ss fun d=>itemsS d fun l=>Q (ma l),fun h q=>t.mono (fun d q=>itemsS.mono (fun l q=>h _ q) q) q⟩
def gu(t:TEd):TAd:=⟨fun ss Q=>t.run ss fun d=>itemsS d fun l=>Q l.reverse,fun h q=>t.mono (fun d q=>itemsS.mono (fun l q=>h _ q) q) q⟩
def l9(hide:List Nat)(ss:SS):SS:=hide.foldl (fun s i=>s.set i .no) ss
theorem SlD.blank(S:SlD K Jx f O σ H ss){i:Nat}{o:Option V}:SlD K Jx f O (σ.set i o) H (ss.set i .no) where
 j:=S.j
 fl:=S.fl
 fO:=S.fO
 al:=S.al
 lO:=S.lO
 len:=by rw [aO,aO,S.len]
 val:=fun j d' h=>by
  by_cases z:i=j
  ·subst z;rw [ay] at h;rw [if_pos rfl] at h;split at h <;> cases h
  ·rw [ax z] at h ⊢;exact S.val j d' h
 own:=fun j l h=>by
  by_cases z:i=j
  ·subst z;rw [ay] at h;rw [if_pos rfl] at h;split at h <;> cases h
  ·rw [ax z] at h ⊢;exact S.own j l h
theorem SlD.hide:∀{hide:List Nat} {σ:St} {ss:SS},SlD K Jx f O σ H ss->SlD K Jx f O (lx hide σ) H (l9 hide ss)
 | [],_,_,S=>S
 | i::r,σ,ss,S=>SlD.hide (hide:=r) (S.blank (i:=i) (o:=none))
theorem oY:∀{hide:List Nat} {ss:SS} {i:Nat},(i∈hide\/ss[i]? = some SD.no\/ss[i]? = none)->(l9 hide ss)[i]? = some SD.no\/(l9 hide ss)[i]? = none
 | [],ss,i,h=>by
  rcases h with h|h
  ·cases h
  ·exact h
 | j::r,ss,i,h=>by
  refine oY (hide:=r) (ss:=ss.set j .no) ?_;by_cases z:j=i
  ·subst z;right;rw [ay,if_pos rfl];split
   ·exact .inl rfl
   ·exact .inr rfl
  ·rw [ax z];rcases h with h|h
   ·rcases ah.mp h with q|q
    ·exact absurd q.symm z
    ·exact .inl q
   ·exact .inr h
theorem SlD.agr{T:List Nat}{σ':St}(S:SlD K Jx f O σ H ss)(h:Agr T σ σ')(hT:∀ i∈T,ss[i]? = some SD.no\/ss[i]? = none):SlD K Jx f O σ' H ss where
 j:=S.j
 fl:=S.fl
 fO:=S.fO
 al:=S.al
 lO:=S.lO
 len:=S.len.trans h.1.symm
 val:=fun j d q=>by
  rw [h.2 j fun z=>?_]
  ·exact S.val j d q
  ·rcases hT j z with w|w <;> rw [w] at q <;> cases q
 own:=fun j d q=>by
  rw [h.2 j fun z=>?_]
  ·exact S.own j d q
  ·rcases hT j z with w|w <;> rw [w] at q <;> cases q
def gv:TTd:=⟨fun _ Q=>Q true,fun h q=>h _ q⟩
def compD(ds:List D)(s0:SS)(g:TGd)(c:TTd)(e:TEd)(Q:D->Prop):Prop:=ds.length<=sizeLine/\∃ I:Nat->List D->Prop,I 0 [] /\
 (∀ i d ys,ds[i]? = some d->ys.length<=i->I i ys->g.run d s0 fun s1=>c.run s1 fun k=>if k=true then e.run s1 fun y=>I (i+1) (ys++[y]) else I (i+1) ys)/\∀ ys,ys.length<=ds.length->I ds.length ys->Q (.lst ys)
theorem compD.mono{ds:List D}{s0:SS}{g:TGd}{c:TTd}{e:TEd}{Q Q':D->Prop}(h:∀ d,Q d->Q' d):compD ds s0 g c e Q->compD ds s0 g c e Q':=fun⟨l,I,q0,q1,q2⟩=>⟨l,I,q0,q1,fun ys l i=>h _ (q2 ys l i)⟩
def eh(it:TAd)(hide:List Nat)(g:TGd)(c:TTd)(e:TEd):TEd:=⟨fun ss Q=>it.run ss fun ds=>compD ds (l9 hide ss) g c e Q,fun h q=>it.mono (fun ds q=>compD.mono h q) q⟩
theorem compD.ok{J:It}{ds:List D}{hide:List Nat}{g:TGd}{c:TTd}{e:TEd}{Q:VK}{H1:Hp}(S:SlD K Jx f O σ H1 ss)(hg:∀ i∈g.tg,i∈hide)(D0:ItD K f O J H1 ds)(h:compD ds (l9 hide ss) g c e fun d=>∀ v H',Ex f H1 H'->Rp K f O H' d v->Q v H') :
  vz J (LG K Jx g) (LT K Jx c) (LE K Jx e) (lx hide σ) Q H1:=by
 obtain⟨hl,I,q0,q1,q2⟩:=h;refine⟨fun k m τ ys H=>∃ yd,SlD K Jx f O τ H (l9 hide ss)/\Rps K f O H yd ys/\yd.length<=k/\I k yd/\m=ds.length-k/\k<=ds.length/\Ex f H1 H,⟨_,[],S.hide,rfl,ai _,q0,rfl,aS _,Ex.refl S.fl⟩,?_⟩;rintro k m τ ys H ⟨yd,S1,r1,l1,i1,rfl,k1,e1⟩;have kp:=e1.kp S.fO;rcases bO k ds.length with hk|hk
 ·refine .inr ⟨D0.go H k kp hk,by rw [r1.len];omega,fun x H' y=>?_⟩;obtain⟨d,ed,e2,rd⟩:=D0.yld O H k x H' (fun a z=>.inl z) S.fO S1.al kp S1.fl hk y;have S2:=S1.ex e2;refine⟨f,O,_,d,S2,rd,g.mono (fun s1 q τ2 H2 e3 S3 _ ag=>?_) (q1 k d yd ed l1 i1)⟩;have S3':SlD K Jx f O τ2 H2 (l9 hide ss):=(S2.ex e3).agr ag fun i hi=>oY (.inl (hg i hi));refine⟨f,O,s1,S3,c.mono (fun b q H3 e4=>?_) q⟩;cases b with
  | true =>
   refine⟨f,O,s1,S3.ex e4,e.mono (fun dy q v H4 e5 rv=>?_) q⟩;have e14:=e2.trans (e3.trans (e4.trans e5));exact⟨ds.length-(k+1),by omega,yd++[dy],(S3'.ex e4).ex e5,(S1.ups e14 r1).append ⟨v,[],rfl,rv,rfl⟩,by rw [aB];simp;omega,q,rfl,hk,e1.trans e14⟩
  | false =>
   have e14:=e2.trans (e3.trans e4);exact⟨ds.length-(k+1),by omega,yd,S3'.ex e4,S1.ups e14 r1,by omega,q,rfl,hk,e1.trans e14⟩
 ·have ek:k=ds.length:=by omega
  subst ek;exact .inl ⟨D0.stop H kp,fun p hp=>q2 yd l1 i1 _ _ (e1.trans (S1.new hp _)) (S1.lst hp r1)⟩
theorem eh.ok{scope:Scope}{hide:List Nat}{it:TAd}{g:TGd}{c:TTd}{e:TEd}{tg iter elt:Expr}{ifs:List Expr}(hc:X.calm=true)(Sc:CompS X.N X.env.scope scope hide)(hi:PI X tg iter (LI X.K Jx it))
  (hg:∀ s2 H2 fp pins C,PG (kq X scope s2 H2 fp pins C) tg (LG X.K Jx g)) (ht:∀ s2 H2 fp pins C,PTs (kq X scope s2 H2 fp pins C) ifs (LT X.K Jx c)) (he:∀ s2 H2 fp pins C,PE (kq X scope s2 H2 fp pins C) elt (LE X.K Jx e))
  (hs:∀ x,foldedSetIterable iter X.env x=pure x) (hh:∀ i∈g.tg,i∈hide):PE X (.ListComp elt [⟨tg,iter,ifs,0⟩] scope pos) (LE X.K Jx (eh it hide g c e)) :=
 (qT (pos:=pos) hc Sc hi hg ht he hs).weak fun σ H Q ⟨f,O,ss,S,q⟩=>⟨f,O,ss,S,it.mono (fun ds q J H1 e1 D0=>compD.ok (S.ex e1) hh D0 (compD.mono (fun d q v H' e r=>q v H' (e1.trans e) r) q)) q⟩
end Dp
namespace Dp
open PySem L2
variable{K:Frag}{Jx:Hp->Prop}{f:Addr}{O O':List Addr}{H H':Hp}{X:Cx}{σ:St}{ss:SS}{a b:Expr}{ta tb tc:TEd}{tA tB:TTd}{pos:Pos}
theorem fX.ok{es:List Expr}{kk:Nat}{ps p:Pos}(hg:Gl X "enumerate")(hm:X.mg "enumerate" = none)(ha:PE X a (LE X.K Jx ta))(hs:starEach [a] X.env=[(false,eval a X.env)]):PI X (.Tuple es kk ps) (.Call (.Name "enumerate" p) [a] [] pos) (LI X.K Jx (fX ta)) :=
 (v3 (p:=p) (pos:=pos) X.K hg hm (iS ha pa_nil hs) rfl hs).weak fun σ H R ⟨f,O,ss,S,q⟩=>⟨f,O,ss,S,ta.mono (fun d q v H1 e r=>by
  have S1:=S.ex e;cases d <;> first|exact False.elim q|skip
  ·rename_i l;obtain⟨p,xs,rfl,h1,h2⟩:=r;refine⟨p,rfl,.inr ⟨⟨xs,h1⟩,q _ H1 e ⟨fun H' i k hi=>?_,fun O' H' i x H'' hO hf al k F hi y=>?_,fun H' k=>?_⟩⟩⟩
   ·rw [ju] at hi;obtain⟨v,hv,_⟩:=h2.get (show l[i]? = some l[i] by simp [hi]);exact⟨xs,v,h1.kp k S1.al,hv⟩
   ·rw [ju] at hi;obtain⟨p',w,rfl,hp,rfl,y⟩:=y;obtain⟨v,hv,r⟩:=h2.get (show l[i]? = some l[i] by simp [hi]);have:=y xs (h1.kp k S1.al);rw [hv] at this;cases this;refine⟨_,lc hi,Ex.new F hp _,p',_,rfl,SqT.of iU,.int i,_,rfl,rfl,_,[],rfl,?_,rfl⟩;rw [bA,aw hi];exact (r.moved hO k S1.al).kp ((Ex.new F hp _).kp hf) al
   ·rw [ju];exact⟨xs,h1.kp k S1.al,by rw [h2.len];exact ai _⟩
  ·rename_i l;obtain⟨p,xs,rfl,n,h1,h2⟩:=r;refine⟨p,rfl,.inl ⟨⟨xs,SqL.of h1⟩,q _ H1 e ⟨fun H' i k hi=>?_,fun O' H' i x H'' hO hf al k F hi y=>?_,fun H' k=>?_⟩⟩⟩
   ·rw [ju] at hi;obtain⟨v,hv,_⟩:=h2.get (show l[i]? = some l[i] by simp [hi]);exact⟨xs,v,SqL.of (k p _ n h1),hv⟩
   ·rw [ju] at hi;obtain⟨p',w,rfl,hp,rfl,y⟩:=y;obtain⟨v,hv,r⟩:=h2.get (show l[i]? = some l[i] by simp [hi]);have:=y xs (SqL.of (k p _ n h1));rw [hv] at this;cases this;refine⟨_,lc hi,Ex.new F hp _,p',_,rfl,SqT.of iU,.int i,_,rfl,rfl,_,[],rfl,?_,rfl⟩;rw [bA,aw hi];exact (r.moved hO k S1.al).kp ((Ex.new F hp _).kp hf) al
   ·rw [ju];exact⟨xs,SqL.of (k p _ n h1),by rw [h2.len];exact ai _⟩) q⟩
def A1(K:Frag)(ta:TA):TI:=fun σ H R=>ta σ H fun vs H1=>∃ a xs,vs=[.ref a] /\
 ((SqT K H1 a xs/\R ⟨fun i H=>i<xs.length/\∃ ys x,SqT K H a ys/\ys.length=xs.length/\ys.reverse[i]? = some x,fun i H x H'=>H'=H/\∀ xs,SqT K H a xs->xs.reverse[i]? = some x,fun i H=>i=xs.length⟩ H1) \/
   (SqL K H1 a xs/\R ⟨fun i H=>i<xs.length/\∃ ys x,SqL K H a ys/\ys.length=xs.length/\ys.reverse[i]? = some x,fun i H x H'=>H'=H/\∀ xs,SqL K H a xs->xs.reverse[i]? = some x,fun i H=>i=xs.length⟩ H1))
theorem v0{tg:Expr}{a:Expr}{ta:TA}{p pos:Pos}(hg:Gl X "reversed")(hm:X.mg "reversed" = none)(ha:PA X [a] ta)(hs:starEach [a] X.env=[(false,eval a X.env)]):PI X tg (.Call (.Name "reversed" p) [a] [] pos) (A1 X.K ta):=by
 intro pins s σ H R I h;refine PyProof.Rows.Call_ (j7 I hg hm PyProof.Rows.boot_reversed (PyProof.Rows.callWith_type1 (ja (ha pos pins s σ H _ I h) fun us s1 ⟨vs,H1,I1,r1,q1⟩=>?_) hs rfl));obtain⟨l,xs,e,q1⟩:=q1;subst e;obtain⟨u,rfl,ru⟩:=Vals.one r1;cases ru;rcases q1 with⟨hq,q1⟩|⟨hq,q1⟩
 ·obtain⟨its,rv,pl,hz⟩:=I1.tuple hq;have hlen:=rv.length;have hn63:=jL;refine RV.ve (show s1.heap.IsTuple l its.toArray from pl) (by rw [af];omega) fun tk=>?_;have st:RV.Is (s1.heap.push { cls:=.type "reversed",data:=.fields #[.ref l,rawInt ((its.toArray.size:Int)-1)] }) s1.heap.objs.size l ((xs.length:Int)-1-((0:Nat):Int)):=⟨_,Heap.get?_push_size _ rfl,rfl,by
   rw [af,← hlen,show (xs.length:Int)-1-((0:Nat):Int)=(xs.length:Int)-1 by omega]⟩
  refine RV.mY st ?_;refine⟨_,[s1.heap.objs.size],_,_,H1,rfl,I1.kept (t':=tk) fun b o e=>Heap.get?_push_of_some _ e,tL xs.length l _,st,fun b hb=>?_,q1⟩;rw [ao.mp hb];exact I1.fpOk (ai _) (I1.hok.fresh (ai _))
 ·obtain⟨its,rv,pl,hz⟩:=I1.list hq;have hlen:=rv.length;refine call_reversed_list pl.isList ?_;have st:(s1.heap.push (revObj l ((its.toArray.size:Int)-1))).IsRevIter s1.heap.objs.size l ((xs.length:Int)-1-((0:Nat):Int)):=⟨_,Heap.get?_push_size _ rfl,rfl,by
   show Data.fields #[.ref l,rawInt ((its.toArray.size:Int)-1)]=_;rw [af,← hlen,show (xs.length:Int)-1-((0:Nat):Int)=(xs.length:Int)-1 by omega]⟩
  refine wpAny_pyIter_revIter st ?_;refine⟨_,[s1.heap.objs.size],_,_,H1,rfl,I1.kept (t':=s1.toks) fun b o e=>Heap.get?_push_of_some _ e,rS xs.length l _,st,fun b hb=>?_,q1⟩;rw [ao.mp hb];exact I1.fpOk (ai _) (I1.hok.fresh (ai _))
theorem gu.ok{tg:Expr}{p:Pos}(hg:Gl X "reversed")(hm:X.mg "reversed" = none)(ha:PE X a (LE X.K Jx ta))(hs:starEach [a] X.env=[(false,eval a X.env)]):PI X tg (.Call (.Name "reversed" p) [a] [] pos) (LI X.K Jx (gu ta)) :=
 (v0 (p:=p) (pos:=pos) hg hm (iS ha pa_nil hs) hs).weak fun σ H R ⟨f,O,ss,S,q⟩=>⟨f,O,ss,S,ta.mono (fun d q v H1 e r=>by
  have S1:=S.ex e;cases d <;> first|exact False.elim q|skip
  ·rename_i l;obtain⟨p,xs,rfl,h1,h2⟩:=r;refine⟨p,xs,rfl,.inl ⟨h1,q _ H1 e ⟨fun H' i k hi=>?_,fun O' H' i x H'' hO hf al k F hi y=>?_,fun H' k=>?_⟩⟩⟩
   ·obtain⟨v,hv,_⟩:=h2.reverse.get (show l.reverse[i]? = some l.reverse[i] from aw hi);rw [a5] at hi;exact⟨by rw [h2.len];exact hi,xs,v,h1.kp k S1.al,rfl,hv⟩
   ·obtain⟨rfl,y⟩:=y;obtain⟨v,hv,r⟩:=h2.reverse.get (show l.reverse[i]? = some l.reverse[i] from aw hi);have:=y xs (h1.kp k S1.al);rw [hv] at this;cases this;exact⟨l.reverse[i],aw hi,Ex.refl F,r.moved hO k S1.al⟩
   ·rw [a5,h2.len]
  ·rename_i l;obtain⟨p,xs,rfl,n,h1,h2⟩:=r;refine⟨p,xs,rfl,.inr ⟨SqL.of h1,q _ H1 e ⟨fun H' i k hi=>?_,fun O' H' i x H'' hO hf al k F hi y=>?_,fun H' k=>?_⟩⟩⟩
   ·obtain⟨v,hv,_⟩:=h2.reverse.get (show l.reverse[i]? = some l.reverse[i] from aw hi);rw [a5] at hi;exact⟨by rw [h2.len];exact hi,xs,v,SqL.of (k p _ n h1),rfl,hv⟩
   ·obtain⟨rfl,y⟩:=y;obtain⟨v,hv,r⟩:=h2.reverse.get (show l.reverse[i]? = some l.reverse[i] from aw hi);have:=y xs (SqL.of (k p _ n h1));rw [hv] at this;cases this;exact⟨l.reverse[i],aw hi,Ex.refl F,r.moved hO k S1.al⟩
   ·rw [a5,h2.len]) q⟩
structure Cs where
 f:Addr
 O:List Addr
 H:Hp
 S:List Addr
structure Kpc (c:Cs)(H:Hp):Prop where
 kp:∀ b o,c.H b=some o->b≠c.f->(b∈c.O\/b ∉ c.S)->H b=some o
 key:∀ l r,c.H c.f=some (.lst (.ref l::r))->∃ r',H c.f=some (.lst (.ref l::r'))
structure StR (K:Frag)(Jx:Hp->Prop)(c:Cs)(O:List Addr)(σ:St)(H:Hp)(ss:SS):Prop where
 sl:SlD K Jx c.f O σ H ss
 sub:∀ a∈c.O,a∈O
 kp:Kpc c H
 new:∀ a∈O,a∈c.S\/c.H a=none
 own:∀(i:Nat) (l:OB) (a:Addr),ss[i]? = some (SD.ow l)->σ[i]? = some (some (V.ref a))->(c.H a=none\/a∈c.S)/\a ∉ c.O/\∀(j:Nat) (l':OB),ss[j]? = some (SD.ow l')->σ[j]? = some (some (V.ref a))->j=i
 jk:∀ H',Fl H' c.f->Kpc c H'->Jx H'
variable{c:Cs}
theorem Kpc.ex(k:Kpc c H)(e:Ex c.f H H'):Kpc c H':=⟨fun b o h n z=>e.sm.app b o n (k.kp b o h n z),fun l r h=>by
 obtain⟨r',h1⟩:=k.key l r h;exact e.sm.key l r' h1⟩
theorem StR.ex(R:StR K Jx c O σ H ss)(e:Ex c.f H H'):StR K Jx c O σ H' ss:=⟨R.sl.ex e,R.sub,R.kp.ex e,R.new,R.own,R.jk⟩
theorem StR.to{σ':St}{ss':SS}(R:StR K Jx c O σ H ss)(S:SlD K Jx c.f O σ' H ss')(h:Sub σ ss σ' ss'):StR K Jx c O σ' H ss':=⟨S,R.sub,R.kp,R.new,fun i l a q e=>by
 obtain⟨q1,e1⟩:=h i l q;obtain⟨w1,w2,w3⟩:=R.own i l a q1 (e1.symm.trans e);refine⟨w1,w2,fun j l' q' e'=>?_⟩;obtain⟨q2,e2⟩:=h j l' q';exact w3 j l' q2 (e2.symm.trans e'),R.jk⟩
def frz1(i:Nat)(ss:SS):SS:=match ss[i]? with|some (.ow (.ls l))=>ss.set i (.val (.lst l))|some (.ow (.dc kvs))=>ss.set i (.val (.dct (kvs.map (·.1)) (kvs.map (·.2))))|_=>ss
theorem wU{i:Nat}{ss:SS}:frz1 i ss=match ss[i]? with|some (.ow o)=>ss.set i (.val o.toD)|_=>ss:=by
 unfold frz1;cases ss[i]? with
 | none=>rfl
 | some x=>cases x with
  | no=>rfl
  | val=>rfl
  | ow o=>cases o <;> rfl
def frz(fz:List Nat)(ss:SS):SS:=fz.foldl (fun s i=>frz1 i s) ss
theorem StR.frz1(R:StR K Jx c O σ H ss){i:Nat}:∃ O',StR K Jx c O' σ H (frz1 i ss):=by
 rw [wU];split
 ·rename_i l e;obtain⟨a,h1,h2,h3,h4⟩:=R.sl.own i l e;obtain⟨w1,w2,w3⟩:=R.own i l a e h1;have hs:∀ b∈O.filter (fun b=>decide (b≠a)),b∈O:=fun b hb=>(bc.mp hb).1;have hl:i<ss.length:=(aq.mp e).1;have hlv:(σ.set i (some (V.ref a)))=σ:=by
   apply ci;intro j;by_cases z:i=j
   ·subst z;rw [ay,if_pos rfl,if_pos (by rw [← R.sl.len];exact hl),h1]
   ·rw [ax z]
  refine⟨O.filter (fun b=>decide (b≠a)),⟨R.sl.fl,?_,fun b hb=>R.sl.al b (hs b hb),fun l r q z=>R.sl.lO l r q (hs _ z),by rw [aO];exact R.sl.len,fun j d q=>?_,fun j l' q=>?_,R.sl.j⟩,fun b hb=>?_,R.kp,fun b hb=>R.new b (hs b hb),fun j l' b q e'=>?_,R.jk⟩
  ·exact bc.mpr ⟨R.sl.fO,by simpa using Ne.symm h3⟩
  ·by_cases z:i=j
   ·subst z;rw [ay,if_pos rfl,if_pos hl] at q;cases q;exact⟨_,h1,OR.rp (h4.map (fun _ q=>q) fun ds vs r=>r.less hs) fun z=>by simpa using (bc.mp z).2⟩
   ·rw [ax z] at q;obtain⟨v,q1,q2⟩:=R.sl.val j d q;exact⟨v,q1,q2.less hs⟩
  ·by_cases z:i=j
   ·subst z;rw [ay,if_pos rfl,if_pos hl] at q;cases q
   ·rw [ax z] at q;obtain⟨b,q1,q2,q3,q4⟩:=R.sl.own j l' q;refine⟨b,q1,bc.mpr ⟨q2,?_⟩,q3,q4.map (fun _ q=>q) fun ds vs r=>r.less hs⟩;have:b≠a:=by
     rintro rfl;exact z (w3 j l' q q1).symm
    simpa using this
  ·have:b≠a:=by
    rintro rfl;exact w2 hb
   exact bc.mpr ⟨R.sub b hb,by simpa using this⟩
  ·by_cases z:i=j
   ·subst z;rw [ay,if_pos rfl,if_pos hl] at q;cases q
   ·rw [ax z] at q;obtain⟨p1,p2,p3⟩:=R.own j l' b q e';refine⟨p1,p2,fun k l2 q2 e2=>?_⟩;by_cases z2:i=k
    ·subst z2;rw [ay,if_pos rfl,if_pos hl] at q2;cases q2
    ·rw [ax z2] at q2;exact p3 k l2 q2 e2
 ·exact⟨O,R⟩
theorem StR.frz:∀{fz:List Nat} {ss:SS} {O:List Addr},StR K Jx c O σ H ss->∃ O',StR K Jx c O' σ H (Dp.frz fz ss)
 | [],_,O,R=>⟨O,R⟩
 | i::fz,ss,O,R=>by
  obtain⟨O1,R1⟩:=R.frz1 (i:=i);exact StR.frz (fz:=fz) R1
structure Rt (K:Frag)(c:Cs)(H:Hp)(d:D)(v:V):Prop where
 fl:Fl H c.f
 kp:Kpc c H
 rp:Rp K c.f c.O H d v
theorem StR.rt(R:StR K Jx c O σ H ss){d:D}{v:V}(r:Rp K c.f O H d v):Rt K c H d v:=⟨R.sl.fl,R.kp,r.less R.sub⟩
def Cs.here(c:Cs)(H:Hp)(O:List Addr):Cs:=⟨c.f,c.O,H,O⟩
theorem Kpc.back{O1:List Addr}{H1:Hp}(R:StR K Jx c O1 σ H1 ss)(k:Kpc (c.here H1 O1) H):Kpc c H where
 kp:=fun b o h n z=>by
  refine k.kp b o (R.kp.kp b o h n z) n ?_;rcases z with z|z
  ·exact .inl z
  ·refine .inr fun y=>?_;rcases R.new b y with w|w
   ·exact z w
   ·rw [w] at h;cases h
 key:=fun l r h=>by
  obtain⟨r',h1⟩:=R.kp.key l r h;exact k.key l r' h1
theorem StR.here(R:StR K Jx c O σ H ss):StR K Jx (c.here H O) O σ H ss:=⟨R.sl,R.sub,⟨fun b o h _ _=>h,fun l r h=>⟨r,h⟩⟩,fun a h=>.inl h,fun i l a q e=>by
 obtain⟨a',h1,h2,_⟩:=R.sl.own i l q;rw [h1] at e;cases e;exact⟨.inr h2,(R.own i l a q h1).2⟩,fun H' f k=>R.jk H' f (Kpc.back R k)⟩
theorem StR.back{O1:List Addr}{H1:Hp}{σ1:St}{s1:SS}(R:StR K Jx c O1 σ1 H1 s1)(k:StR K Jx (c.here H1 O1) O σ H ss):StR K Jx c O σ H ss:=by
 have low:∀ a,a ∉ c.O->(a∈O1\/H1 a=none)->a∈c.S\/c.H a=none:=fun a n z=>by
  rcases z with z|z
  ·exact R.new a z
  ·cases h:c.H a with
   | none=>exact .inr rfl
   | some o =>
    left;by_cases y:a∈c.S
    ·exact y
    ·exfalso;by_cases w:a=c.f
     ·subst w;obtain⟨xs,q⟩:=R.sl.fl.lst;rw [q] at z;cases z
     ·rw [R.kp.kp a o h w (.inr y)] at z;cases z
 refine⟨k.sl,k.sub,Kpc.back R k.kp,fun a h=>?_,fun i l a q e=>?_,R.jk⟩
 ·by_cases z:a∈c.O
  ·rcases R.new a (R.sub a z) with w|w
   ·exact .inl w
   ·exact .inr w
  ·exact low a z (k.new a h)
 ·obtain⟨w1,w2,w3⟩:=k.own i l a q e;exact⟨(low a w2 w1.symm).symm,w2,w3⟩
theorem Rt.back{O1:List Addr}{H1:Hp}{σ1:St}{s1:SS}(R:StR K Jx c O1 σ1 H1 s1){d:D}{v:V}(k:Rt K (c.here H1 O1) H d v):Rt K c H d v:=⟨k.fl,Kpc.back R k.kp,k.rp⟩
structure EndsD where
 nx:SS->Prop
 rt:D->Prop
 bk:SS->Prop
 ct:SS->Prop
structure EndsD.Le (E E':EndsD):Prop where
 nx:∀ s,E.nx s->E'.nx s
 rt:∀ d,E.rt d->E'.rt d
 bk:∀ s,E.bk s->E'.bk s
 ct:∀ s,E.ct s->E'.ct s
structure TSd where
 run:EndsD->SS->Prop
 mono:∀{E E' ss},E.Le E'->run E ss->run E' ss
def jD(K:Frag)(Jx:Hp->Prop)(c:Cs)(D:Ends):EndsD:=⟨fun ss=>∀ O σ H,StR K Jx c O σ H ss->D.nx σ H,fun d=>∀ v H,Rt K c H d v->D.rt v H,fun ss=>∀ O σ H,StR K Jx c O σ H ss->D.bk σ H,fun ss=>∀ O σ H,StR K Jx c O σ H ss->D.ct σ H⟩
def LS(K:Frag)(Jx:Hp->Prop)(t:TSd):TS:=fun D σ H=>∃ c O ss,StR K Jx c O σ H ss/\t.run (jD K Jx c D) ss
theorem _root_.L2.PS.weak{st:Stmt}{t t':TS}(h:PS X st t)(w:∀ D σ H,t' D σ H->t D σ H):PS X st t':=fun pins s σ H D I q=>h pins s σ H D I (w D σ H q)
theorem _root_.L2.PSs.weak{st:List Stmt}{t t':TS}(h:PSs X st t)(w:∀ D σ H,t' D σ H->t D σ H):PSs X st t':=fun pins s σ H D I q=>h pins s σ H D I (w D σ H q)
theorem StR.le{t:TEd}{Q:VK}(R:StR K Jx c O σ H ss){W:D->Prop}(h:t.run ss W)(hw:∀ d v H1,StR K Jx c O σ H1 ss->Ex c.f H H1->Rp K c.f O H1 d v->W d->Q v H1):LE K Jx t σ H Q :=
 ⟨c.f,O,ss,R.sl,t.mono (fun d q v H1 e r=>hw d v H1 (R.ex e) e r q) h⟩
theorem StR.lt{t:TTd}{Q:Bool->Hp->Prop}(R:StR K Jx c O σ H ss){W:Bool->Prop}(h:t.run ss W)(hw:∀ d H1,StR K Jx c O σ H1 ss->W d->Q d H1):LT K Jx t σ H Q :=
 ⟨c.f,O,ss,R.sl,t.mono (fun d q H1 e=>hw d H1 (R.ex e) q) h⟩
def dj:TSd:=⟨fun E ss=>E.nx ss,fun h q=>h.nx _ q⟩
theorem dj.nil:PSs X [] (LS X.K Jx dj):=pss_nil.weak fun D σ H ⟨c,O,ss,R,q⟩=>q O σ H R
theorem dj.pass:PS X (.Pass pos) (LS X.K Jx dj):=ps_pass.weak fun D σ H ⟨c,O,ss,R,q⟩=>q O σ H R
def iD:TSd:=⟨fun E ss=>E.bk ss,fun h q=>h.bk _ q⟩
theorem iD.ok:PS X (.Break pos) (LS X.K Jx iD):=ps_break.weak fun D σ H ⟨c,O,ss,R,q⟩=>q O σ H R
@[reducible] def EndsD.to(E:EndsD)(P:SS->Prop):EndsD:=⟨P,E.rt,E.bk,E.ct⟩
def dSq(t u:TSd):TSd:=⟨fun E ss=>t.run (E.to (u.run E)) ss,fun {E E' ss} h q=>t.mono (E:=E.to (u.run E)) (E':=E'.to (u.run E')) ⟨fun s q=>u.mono h q,h.rt,h.bk,h.ct⟩ q⟩
theorem dSq.ok{st:Stmt}{sts:List Stmt}{t u:TSd}(h:PS X st (LS X.K Jx t))(g:PSs X sts (LS X.K Jx u)):PSs X (st::sts) (LS X.K Jx (dSq t u)):=(jq h g).weak fun D σ H ⟨c,O,ss,R,q⟩ =>
 ⟨c,O,ss,R,t.mono (E:=(jD X.K Jx c D).to (u.run (jD X.K Jx c D))) ⟨fun s q O' σ' H' R'=>⟨c,O',s,R',q⟩,fun _ q=>q,fun _ q=>q,fun _ q=>q⟩ q⟩
theorem dSq.one{st:Stmt}{t:TSd}(h:PS X st (LS X.K Jx t)):PSs X [st] (LS X.K Jx t):=jh h
def dq(fz:List Nat)(e:TEd):TSd:=⟨fun E ss=>e.run (frz fz ss) E.rt,fun h q=>e.mono h.rt q⟩
theorem dq.ok{fz:List Nat}(h:PE X a (LE X.K Jx ta)):PS X (.Return (some a) pos) (LS X.K Jx (dq fz ta)):=(jK h).weak fun D σ H ⟨c,O,ss,R,q⟩=>by
 obtain⟨O',R⟩:=R.frz (fz:=fz);exact R.le q fun d v H1 R1 _ r w=>w v H1 (R1.rt r)
def gR:TSd:=⟨fun E ss=>E.rt .non,fun h q=>h.rt _ q⟩
theorem gR.ok:PS X (.Return none pos) (LS X.K Jx gR):=ps_retN.weak fun D σ H ⟨c,O,ss,R,q⟩=>q .non H (R.rt rfl)
def dIf(fz:List Nat)(k:TTd)(t u:TSd):TSd:=⟨fun E ss=>k.run (frz fz ss) fun b=>if b=true then t.run E (frz fz ss) else u.run E (frz fz ss),fun {E E' ss} h q=>k.mono (fun b q=>by
 revert q;cases b
 ·exact u.mono h
 ·exact t.mono h) q⟩
theorem dIf.ok{fz:List Nat}{st su:List Stmt}{t u:TSd}(hk:PT X a (LT X.K Jx tA))(ht:PSs X st (LS X.K Jx t))(hu:PSs X su (LS X.K Jx u)):PS X (.If a st su pos) (LS X.K Jx (dIf fz tA t u)):=(lu hk ht hu).weak fun D σ H ⟨c,O,ss,R,q⟩=>by
 obtain⟨O',R⟩:=R.frz (fz:=fz);refine R.lt q fun b H1 R1 w=>?_;cases b
 ·exact⟨c,O',_,R1,w⟩
 ·exact⟨c,O',_,R1,w⟩
def dDo(fz:List Nat)(e:TEd):TSd:=⟨fun E ss=>e.run (frz fz ss) fun _=>E.nx (frz fz ss),fun h q=>e.mono (fun _ q=>h.nx _ q) q⟩
theorem dDo.ok{fz:List Nat}(h:PE X a (LE X.K Jx ta))(hs:swapsWith a none pos.line X.env=pure false):PS X (.Expr a pos) (LS X.K Jx (dDo fz ta)):=(kh h hs).weak fun D σ H ⟨c,O,ss,R,q⟩=>by
 obtain⟨O',R⟩:=R.frz (fz:=fz);exact R.le q fun d v H1 R1 _ r w=>w O' σ H1 R1
def du(fz:List Nat)(g:TGd)(e:TEd):TSd:=⟨fun E ss=>e.run (frz fz ss) fun d=>g.run d (frz fz ss) E.nx,fun h q=>e.mono (fun d q=>g.mono h.nx q) q⟩
theorem StR.lg{g:TGd}{d:D}{v:V}{Q:St->Hp->Prop}{W:SS->Prop}(R:StR K Jx c O σ H ss)(r:Rp K c.f O H d v)(h:g.run d ss W)(hw:∀ ss' σ' H1,StR K Jx c O σ' H1 ss'->W ss'->Q σ' H1):LG K Jx g v σ H Q :=
 ⟨c.f,O,ss,d,R.sl,r,g.mono (fun s q σ' H1 e S sb ag=>hw s σ' H1 ((R.ex e).to S sb) q) h⟩
theorem du.ok{fz:List Nat}{tg:Expr}{g:TGd}(h:PE X a (LE X.K Jx ta))(hg:PG X tg (LG X.K Jx g))(hs:swapsWithSole [tg] a pos.line X.env=pure false)(hw:swappedStores [tg] a X.env=pure none)(h1:(assignEach [tg] X.env).map (·.2)=[assign tg X.env]):PS X (.Assign [tg] a pos) (LS X.K Jx (du fz g ta)):=(j4 h hg hs hw h1).weak fun D σ H ⟨c,O,ss,R,q⟩=>by
 obtain⟨O',R⟩:=R.frz (fz:=fz);exact R.le q fun d v H1 R1 _ r w=>R1.lg r w fun s' σ' H2 R2 w=>w O' σ' H2 R2
end Dp
namespace Dp
open PySem L2
variable{K:Frag}{Jx:Hp->Prop}{f:Addr}{O O':List Addr}{H H':Hp}{X:Cx}{σ:St}{ss:SS}{a b:Expr}{ta tb tc:TEd}{tA tB:TTd}{pos:Pos}{c:Cs}
theorem iK.ok{fz:List Nat}{i:Nat}{x:Str}{p':Pos}(hN:X.N.Nodup)(hi:X.N[i]? = some x)(hx:pC X.env.scope x)(h:PE X a (LE X.K Jx ta))(hs:swapsWith a (some (.Name x p')) pos.line X.env=pure false)(hf:X.fn x=true\/X.env.scope.names.lookup x=some .local) :
  PS X (.Assign [.Name x p'] a pos) (LS X.K Jx (du fz (gNm i) ta)):=(jJ hN hi hx h hs hf).weak fun D σ H ⟨c,O,ss,R,q⟩=>by
 obtain⟨O',R⟩:=R.frz (fz:=fz);exact R.le q fun d v H1 R1 _ r w=>w O' _ H1 (R1.to (R1.sl.set r) Sub.set)
def ii(fz:List Nat)(i j:Nat)(a b:TEd):TSd:=⟨fun E ss=>a.run (frz fz ss) fun d=>b.run (frz fz ss) fun d'=>E.nx (((frz fz ss).set i (.val d)).set j (.val d')),fun h q=>a.mono (fun d q=>b.mono (fun d' q=>h.nx _ q) q) q⟩
theorem ii.weak{fz:List Nat}{i j:Nat}{D:Ends}{ta tb:TEd}(h:LS X.K Jx (ii fz i j ta tb) D σ H):yh i j (mG (LE X.K Jx ta) (mG (LE X.K Jx tb) vK)) D σ H:=by
 obtain⟨c,O,ss,R,q⟩:=h;obtain⟨O',R⟩:=R.frz (fz:=fz);refine R.le q fun d v H1 R1 e1 r w=>R1.le w fun d' v' H2 R2 e2 r' w=>?_;have S:=(R2.sl.set (i:=i) (R1.sl.up e2 r)).set (i:=j) r';exact⟨v,v',rfl,w O' _ H2 (R2.to S (Sub.trans Sub.set Sub.set))⟩
def dY(k:TTd)(t:TSd):TSd:=⟨fun E ss=>∃(I:SS->Prop) (μ:SS->Nat),I ss/\∀ s,I s->k.run s fun b=>if b=true then t.run ⟨fun s'=>I s'/\μ s'<μ s,E.rt,E.nx,fun s'=>I s'/\μ s'<μ s⟩ s else E.nx s,fun {E E' ss} h ⟨I,μ,q0,q⟩=>⟨I,μ,q0,fun s i=>k.mono (fun b q=>by
 revert q;cases b
 ·exact h.nx _
 ·exact t.mono ⟨fun _ q=>q,h.rt,h.nx,fun _ q=>q⟩) (q s i)⟩⟩
theorem dY.ok{st:List Stmt}{t:TSd}(hp:PassesOwn (model X.prog X.w) X.A X.env X.xe)(hk:PT X a (LT X.K Jx tA))(ht:PSs X st (LS X.K Jx t)):PS X (.While a st [] pos) (LS X.K Jx (dY tA t)):=(t5 hp hk ht).weak fun D σ H ⟨c,O,ss,R,I,μ,q0,q⟩=>by
 refine⟨fun m σ H=>∃ O s,StR X.K Jx c O σ H s/\I s/\μ s=m,⟨_,O,ss,R,q0,rfl⟩,?_⟩;rintro m σ H ⟨O,s,R,i0,rfl⟩;refine R.lt (q s i0) fun b H1 R1 w=>?_;cases b with
 | false=>exact w O σ H1 R1
 | true =>
  refine⟨fun σ' H'=>∃ O' s',StR X.K Jx c O' σ' H' s'/\I s'/\μ s'<μ s,fun σ' H' ⟨O',s',R',i',l⟩=>⟨_,l,O',s',R',i',rfl⟩,c,O,s,R1,?_⟩;refine t.mono ?_ w;exact⟨fun s' q O' σ' H' R'=>⟨O',s',R',q⟩,fun _ q=>q,fun _ q=>q,fun s' q O' σ' H' R'=>⟨O',s',R',q⟩⟩
def eE(fz:List Nat)(it:TAd)(g:TGd)(t:TSd):TSd:=⟨fun E ss=>it.run (frz fz ss) fun ds=>∃ I:Nat->SS->Prop,I 0 (frz fz ss)/\(∀ i d s,ds[i]? = some d->I i s->g.run d s fun s1=>t.run ⟨I (i+1),E.rt,E.nx,I (i+1)⟩ s1)/\∀ s,I ds.length s->E.nx s,fun {E E' ss} h q=>it.mono (fun ds ⟨I,q0,q1,q2⟩=>⟨I,q0,fun i d s e i0=>g.mono (fun s1 q=>t.mono (E:=⟨I (i+1),E.rt,E.nx,I (i+1)⟩) (E':=⟨I (i+1),E'.rt,E'.nx,I (i+1)⟩) ⟨fun _ q=>q,h.rt,h.nx,fun _ q=>q⟩ q) (q1 i d s e i0),fun s i0=>h.nx _ (q2 s i0)⟩) q⟩
theorem eE.ok{fz:List Nat}{tg iter:Expr}{st:List Stmt}{it:TAd}{g:TGd}{t:TSd}(hp:PassesOwn (model X.prog X.w) X.A X.env X.xe)(hc:X.calm=true)(hi:PI X tg iter (LI X.K Jx it))(hg:PG X tg (LG X.K Jx g))(ht:PSs X st (LS X.K Jx t))(hs:∀ x,foldedSetIterable iter X.env x=pure x) :
  PS X (.For tg iter st [] pos) (LS X.K Jx (eE fz it g t)):=(yI hp hc hi hg ht hs).weak fun D σ H ⟨c,O,ss,R,q⟩=>by
 obtain⟨O,R⟩:=R.frz (fz:=fz);refine⟨c.f,O,_,R.sl,it.mono (fun ds q J H1 e1 D0=>?_) q⟩;obtain⟨I,q0,q1,q2⟩:=q;have R1:=R.ex e1;refine⟨fun i m σ H=>∃ O2 s,StR X.K Jx (c.here H1 O) O2 σ H s/\I i s/\m=ds.length-i/\i<=ds.length,⟨_,O,_,R1.here,q0,rfl,aS _⟩,?_⟩;rintro i m σ H ⟨O2,s,R2,i0,rfl,hi⟩;have kp:Kp O H1 H:=fun b o n h=>R2.kp.kp b o h (fun z=>n (by rw [z];exact R.sl.fO)) (.inr n);rcases bO i ds.length with hk|hk
 ·refine .inr ⟨D0.go H i kp hk,fun σ' H'=>∃ O3 s',StR X.K Jx (c.here H1 O) O3 σ' H' s'/\I (i+1) s',fun σ' H' ⟨O3,s',R3,i3⟩=>⟨ds.length-(i+1),by omega,O3,s',R3,i3,rfl,hk⟩,fun x H' y=>?_⟩;obtain⟨d,ed,e2,rd⟩:=D0.yld O2 H i x H' R2.new R2.sl.fO R2.sl.al kp R2.sl.fl hk y;refine (R2.ex e2).lg rd (q1 i d s ed i0) fun s1 σ' H3 R3 w=>?_;refine⟨c.here H1 O,O2,s1,R3,?_⟩;refine t.mono ?_ w;exact⟨fun s' q O' σ' H' R'=>⟨O',s',R',q⟩,fun d q v H r=>q v H (Rt.back R1 r),fun s' q O' σ' H' R'=>q O' σ' H' (StR.back R1 R'),fun s' q O' σ' H' R'=>⟨O',s',R',q⟩⟩
 ·have ek:i=ds.length:=by omega
  subst ek;exact .inl ⟨D0.stop H kp,q2 s i0 O2 σ H (StR.back R1 R2)⟩
def LF(K:Frag)(Jx:Hp->Prop)(t:TEd):TE:=fun σ H Q=>∃ f O ss,SlD K Jx f O σ H ss/\t.run ss fun d=>∃ l,d = .lst l/\∀ p xs H',Ex f H H'->H p=none->H' p=some (.lst xs)->Rps K f (p::O) H' l xs->Q (.ref p) H'
theorem StR.mkOw{o:OB}{p:Addr}{i:Nat}(R:StR K Jx c O σ H ss)(e:Ex c.f H H')(hp:H p=none)(hx:OR K c.f (p::O) H' p o):StR K Jx c (p::O) (σ.set i (some (.ref p))) H' (ss.set i (.ow o)):=by
 have mv:∀ b∈p::O,b∈O\/H b=none:=fun b hb=>by
  rcases ah.mp hb with z|z
  ·exact .inr (z ▸ hp)
  ·exact .inl z
 have kp:=e.kp R.sl.fO;have np:p ∉ O:=R.sl.nO hp;have npf:p≠c.f:=fun z=>np (z ▸ R.sl.fO);have low:c.H p=none\/p∈c.S:=by
  cases h:c.H p with
  | none=>exact .inl rfl
  | some o =>
   right;by_cases y:p∈c.S
   ·exact y
   ·rw [R.kp.kp p o h npf (.inr y)] at hp;cases hp
 have hne:∀(j:Nat) (l':OB) (b:Addr),ss[j]? = some (SD.ow l')->σ[j]? = some (some (V.ref b))->b≠p:=fun j l' b q1 q2=>by
  obtain⟨b',w1,w2,_⟩:=R.sl.own j l' q1;rw [w1] at q2;cases q2;rintro rfl;exact np w2
 refine⟨⟨e.fl,ar _ R.sl.fO,fun b hb=>?_,fun l r q=>?_,by rw [aO,aO];exact R.sl.len,fun j d q=>?_,fun j l' q=>?_,fun H' e'=>R.sl.j H' (e.trans e')⟩,fun b hb=>ar _ (R.sub b hb),R.kp.ex e,fun b hb=>?_,fun j l' b q eb=>?_,R.jk⟩
 ·rcases ah.mp hb with z|z
  ·exact z ▸ hx.ow
  ·exact (R.sl.ex e).al b z
 ·intro z;rcases ah.mp z with w|w
  ·subst w;obtain⟨l0,ns,i,c',a',b',f1,f2,f3⟩:=R.sl.fl;obtain⟨r',h2⟩:=e.sm.key _ _ f1;rw [h2] at q;cases q;rw [hp] at f2;cases f2
  ·exact (R.sl.ex e).lO _ _ q w
 ·by_cases z:i=j
  ·subst z;rw [ay,if_pos rfl] at q;split at q <;> cases q
  ·rw [ax z] at q ⊢;obtain⟨v,w1,w2⟩:=R.sl.val j d q;exact⟨v,w1,w2.moved mv kp R.sl.al⟩
 ·by_cases z:i=j
  ·subst z;rw [ay,if_pos rfl] at q;split at q
   ·rename_i hl;cases q;exact⟨p,by rw [ay,if_pos rfl,if_pos (by rw [← R.sl.len];exact hl)],av,npf,hx⟩
   ·cases q
  ·rw [ax z] at q ⊢;obtain⟨b,w1,w2,w3,w4⟩:=R.sl.own j l' q;exact⟨b,w1,ar _ w2,w3,w4.map (fun x q=>e.sm.app b x w3 q) fun ds vs r=>r.moved mv kp R.sl.al⟩
 ·rcases ah.mp hb with z|z
  ·subst z;exact low.symm
  ·exact R.new b z
 ·by_cases z:i=j
  ·subst z;rw [ay,if_pos rfl] at eb;split at eb
   ·cases eb;refine⟨low,fun w=>np (R.sub _ w),fun j' l2 q2 e2=>?_⟩;by_cases z2:i=j'
    ·exact z2.symm
    ·rw [ax z2] at q2 e2;exact absurd rfl (hne j' l2 _ q2 e2)
   ·cases eb
  ·rw [ax z] at q eb;obtain⟨w1,w2,w3⟩:=R.own j l' b q eb;refine⟨w1,w2,fun j' l2 q2 e2=>?_⟩;by_cases z2:i=j'
   ·subst z2;rw [ay,if_pos rfl] at e2;split at e2
    ·cases e2;exact absurd rfl (hne j l' _ q eb)
    ·cases e2
   ·rw [ax z2] at q2 e2;exact w3 j' l2 q2 e2
theorem StR.mkOwn{l:List D}{p:Addr}{xs:List V}{i:Nat}(R:StR K Jx c O σ H ss)(e:Ex c.f H H')(hp:H p=none)(hx:H' p=some (.lst xs))(r':Rps K c.f (p::O) H' l xs):StR K Jx c (p::O) (σ.set i (some (.ref p))) H' (ss.set i (.own l)):=R.mkOw e hp ⟨xs,hx,r'⟩
theorem StR.wrO{l l':OB}{i:Nat}{a:Addr}{x:HO}(R:StR K Jx c O σ H ss)(hs:ss[i]? = some (SD.ow l))(ha:σ[i]? = some (some (V.ref a)))(r:Kp O H (i6 H a x)->OR K c.f O (i6 H a x) a l'):StR K Jx c O σ (i6 H a x) (ss.set i (.ow l')):=by
 obtain⟨a',h1,h2,h3,h4⟩:=R.sl.own i l hs;rw [h1] at ha;cases ha;obtain⟨w1,w2,w3⟩:=R.own i l a hs h1;have hl:i<ss.length:=(aq.mp hs).1;have kp:Kp O H (i6 H a x):=fun b o n q=>by
  rw [iT (by rintro rfl;exact n h2)];exact q
 have fl:Fl (i6 H a x) c.f:=by
  obtain⟨l0,ns,i,c',a',b',f1,f2,f3⟩:=R.sl.fl;refine⟨l0,ns,i,c',a',b',by rw [iT (Ne.symm h3)];exact f1,?_,f3⟩;rw [iT (by rintro rfl;exact R.sl.lO _ _ f1 h2)];exact f2
 have gt:∀{j:Nat} {s:SD},(ss.set i (.ow l'))[j]? = some s->(j=i/\s = .ow l')\/(j≠i/\ss[j]? = some s):=fun {j s} q=>by
  by_cases z:i=j
  ·subst z;rw [ay,if_pos rfl,if_pos hl] at q;exact .inl ⟨rfl,(Option.some.inj q).symm⟩
  ·rw [ax z] at q;exact .inr ⟨Ne.symm z,q⟩
 have kc:Kpc c (i6 H a x):=by
  refine⟨fun b o q n z=>?_,fun l r q=>?_⟩
  ·have nb:b≠a:=by
    rintro rfl;rcases z with z|z
    ·exact w2 z
    ·rcases w1 with w|w
     ·rw [w] at q;cases q
     ·exact z w
   rw [iT nb];exact R.kp.kp b o q n z
  ·obtain⟨r',q1⟩:=R.kp.key l r q;exact⟨r',by rw [iT (Ne.symm h3)];exact q1⟩
 refine⟨⟨fl,R.sl.fO,fun b hb=>?_,fun l r q=>by rw [iT (Ne.symm h3)] at q;exact R.sl.lO l r q,by rw [aO];exact R.sl.len,fun j d q=>?_,fun j l2 q=>?_,fun H' e'=>R.jk H' e'.fl (kc.ex e')⟩,R.sub,kc,R.new,fun j l2 b q e=>?_,R.jk⟩
 ·by_cases z:b=a
  ·subst z;exact (r kp).ow
  ·rcases R.sl.al b hb with⟨y,q⟩|⟨y,q⟩
   ·exact .inl ⟨y,by rw [iT z];exact q⟩
   ·exact .inr ⟨y,by rw [iT z];exact q⟩
 ·rcases gt q with⟨_,z⟩|⟨_,q⟩
  ·cases z
  ·obtain⟨v,q1,q2⟩:=R.sl.val j d q;exact⟨v,q1,q2.kp kp R.sl.al⟩
 ·rcases gt q with⟨rfl,z⟩|⟨z,q⟩
  ·cases z;exact⟨a,h1,h2,h3,r kp⟩
  ·obtain⟨b,q1,q2,q3,q4⟩:=R.sl.own j l2 q;have nb:b≠a:=by
    rintro rfl;exact z (w3 j l2 q q1)
   exact⟨b,q1,q2,q3,q4.map (fun x q=>by rw [iT nb];exact q) fun ds vs r=>r.kp kp R.sl.al⟩
 ·have q':∃ l3,ss[j]? = some (SD.ow l3):=by
   rcases gt q with⟨rfl,z⟩|⟨z,q⟩
   ·exact⟨l,hs⟩
   ·exact⟨l2,q⟩
  obtain⟨l3,q'⟩:=q';obtain⟨p1,p2,p3⟩:=R.own j l3 b q' e;refine⟨p1,p2,fun j' l4 q4 e4=>?_⟩;rcases gt q4 with⟨rfl,z⟩|⟨z,q5⟩
  ·exact p3 _ l hs e4
  ·exact p3 j' l4 q5 e4
theorem StR.wr{l l':List D}{i:Nat}{a:Addr}{xs:List V}(R:StR K Jx c O σ H ss)(hs:ss[i]? = some (SD.own l))(ha:σ[i]? = some (some (V.ref a)))(r:Rps K c.f O H l' xs):StR K Jx c O σ (i6 H a (.lst xs)) (ss.set i (.own l')):=R.wrO hs ha fun kp=>⟨xs,iU,r.kp kp R.sl.al⟩
end Dp
namespace Dp
open PySem L2
variable{K:Frag}{Jx:Hp->Prop}{f:Addr}{O O':List Addr}{H H':Hp}{X:Cx}{σ:St}{ss:SS}{a b:Expr}{ta tb tc:TEd}{tA tB:TTd}{pos:Pos}{c:Cs}
theorem Rps.skip{p:Addr}{H1:Hp}(S:SlD K Jx f O σ H1 ss)(hp:H1 p=none){o:HO}{ds:List D}{vs:List V}(r:Rps K f O H1 ds vs):Rps K f (p::O) (i6 H1 p o) ds vs :=
 r.moved (fun a z=>by
  rcases ah.mp z with w|w
  ·exact .inr (by rw [w];exact hp)
  ·exact .inl w) ((S.new hp o).kp S.fO) S.al
theorem Ex.low{H1:Hp}(e:Ex f H H1){p:Addr}(n:p≠f)(h:H1 p=none):H p=none:=e.sm.free n h
theorem dO.okF{es:List Expr}{t:TAd}(h:PA X es (LA X.K Jx t)):PE X (.List es pos) (LF X.K Jx (dO t)):=(pV h).weak fun σ H Q ⟨f,O,ss,S,q⟩ =>
 ⟨f,O,ss,S,t.mono (fun ds q vs H1 e r=>by
  obtain⟨hl,l,el,q⟩:=q;cases el;refine⟨by rw [r.len];exact hl,fun p hp=>?_⟩;have S1:=S.ex e;exact q p vs _ (e.trans (S1.new hp _)) (e.low (fun z=>S1.nO hp (z ▸ S1.fO)) hp) iU (Rps.skip S1 hp r)) q⟩
theorem iQ.okF(ha:PE X a (LE X.K Jx ta))(hb:PE X b (LE X.K Jx tb)):PE X (.BinOp a .Mult b pos) (LF X.K Jx (dm .Mult ta tb)):=(ji (pos:=pos) uw ha hb).weak fun σ H Q ⟨f,O,ss,S,q⟩=>by
 refine⟨f,O,ss,S,ta.mono (fun dx q v1 H1 e1 r1=>?_) q⟩;refine⟨f,O,ss,S.ex e1,tb.mono (fun dy q v2 H2 e2 r2=>?_) q⟩;have S2:=(S.ex e1).ex e2;have r1:=(S.ex e1).up e2 r1;cases dx <;> cases dy <;> first|(exact False.elim q)|skip
 ·obtain⟨_,l,el,_⟩:=q;cases el
 ·obtain⟨_,_,_,l,el,_⟩:=q;cases el
 ·obtain⟨_,_,_,l,el,_⟩:=q;cases el
 ·rename_i la k;obtain⟨q1,q2,q3,l,el,q⟩:=q;cases el;obtain⟨p0,xs,rfl,n1,h1,h2⟩:=r1;cases (show v2=_ from r2);refine⟨p0,k,xs,rfl,rfl,h1,q1,q2,by rw [h2.len];exact q3,fun p hp=>?_⟩;have e12:=e1.trans e2;exact q p _ _ (e12.trans (S2.new hp _)) (e12.low (fun z=>S2.nO hp (z ▸ S2.fO)) hp) iU (Rps.skip S2 hp (h2.flat _))
def fq(t:TEd):TEd:=⟨fun ss Q=>t.run ss fun d=>itemsS d fun l=>Q (.lst l),fun h q=>t.mono (fun d q=>itemsS.mono (fun l q=>h _ q) q) q⟩
theorem fq.okF{p:Pos}(hg:Gl X "list")(hm:X.mg "list" = none)(ha:PE X a (LE X.K Jx ta))(hs:starEach [a] X.env=[(false,eval a X.env)]):PE X (.Call (.Name "list" p) [a] [] pos) (LF X.K Jx (fq ta)) :=
 (ki (p:=p) (pos:=pos) (uI X.K) hg hm jW (iS ha pa_nil hs) (by decide) (by decide) hs rfl).weak fun σ H Q ⟨f,O,ss,S,q⟩=>⟨f,O,ss,S,ta.mono (fun d q v H1 e r=>by
  have S1:=S.ex e;cases d <;> first|exact False.elim q|skip
  ·rename_i l0;obtain⟨l,el,q⟩:=q;cases el;obtain⟨p0,xs,rfl,h1,h2⟩:=r;exact⟨p0,xs,rfl,.inr h1,fun p hp=>q p _ _ (e.trans (S1.new hp _)) (e.low (fun z=>S1.nO hp (z ▸ S1.fO)) hp) iU (Rps.skip S1 hp h2)⟩
  ·rename_i l0;obtain⟨l,el,q⟩:=q;cases el;obtain⟨p0,xs,rfl,_,h1,h2⟩:=r;exact⟨p0,xs,rfl,.inl (SqL.of h1),fun p hp=>q p _ _ (e.trans (S1.new hp _)) (e.low (fun z=>S1.nO hp (z ▸ S1.fO)) hp) iU (Rps.skip S1 hp h2)⟩) q⟩
def gG(fz:List Nat)(i:Nat)(e:TEd):TSd:=⟨fun E ss=>e.run (frz fz ss) fun d=>match d with | .lst l=>E.nx ((frz fz ss).set i (.own l))|_=>False,fun {E E' ss} h q=>e.mono (fun d q=>by
 revert q;cases d <;> first|exact h.nx _|exact id) q⟩
theorem gG.ok{fz:List Nat}{i:Nat}{x:Str}{p':Pos}(hN:X.N.Nodup)(hi:X.N[i]? = some x)(hx:pC X.env.scope x)(h:PE X a (LF X.K Jx ta))(hs:swapsWith a (some (.Name x p')) pos.line X.env=pure false)(hf:X.fn x=true\/X.env.scope.names.lookup x=some .local) :
  PS X (.Assign [.Name x p'] a pos) (LS X.K Jx (gG fz i ta)):=(jJ hN hi hx h hs hf).weak fun D σ H ⟨c,O,ss,R,q⟩=>by
 obtain⟨O',R⟩:=R.frz (fz:=fz);refine⟨c.f,O',_,R.sl,ta.mono (fun d q=>?_) q⟩;cases d <;> first|exact False.elim q|skip
 rename_i l;exact⟨l,rfl,fun p xs H1 e hp hx r=>q _ _ H1 (R.mkOwn e hp hx r)⟩
def gH(fz:List Nat)(i:Nat)(e:TEd):TSd:=⟨fun E ss=>match (frz fz ss)[i]? with|some (.ow (.ls l))=>e.run (frz fz ss) fun d=>l.length<sizeLine/\E.nx ((frz fz ss).set i (.own (l++[d])))|_=>False,fun {E E' ss} h q=>by
 revert q;split
 ·exact e.mono fun d q=>⟨q.1,h.nx _ q.2⟩
 ·exact id⟩
theorem gH.ok{fz:List Nat}{i:Nat}{x:Expr}{ap cp:Pos}(hx:PE X x (jO i))(hb:attributeBase x "append" X.env (eval x X.env)=eval x X.env)(h:PE X a (LE X.K Jx ta))(hs:starEach [a] X.env=[(false,eval a X.env)])(hl:(ap.endLine == cp.line)=true)(hw:swapsWith (.Call (.Attribute x "append" ap) [a] [] cp) none pos.line X.env=pure false) :
  PS X (.Expr (.Call (.Attribute x "append" ap) [a] [] cp) pos) (LS X.K Jx (gH fz i ta)):=by
 refine (kh (pos:=pos) (mN (apos:=ap) (cpos:=cp) PySem.F.plainAttrs_list PySem.F.slot_list_append PySem.F.type_list_append sH hx (iS h pa_nil hs) hb (by rw [hs];rfl) hl hs rfl) hw).weak fun D σ H ⟨c,O,ss,R,q⟩=>?_;obtain⟨O',R⟩:=R.frz (fz:=fz);have q:(match (frz fz ss)[i]? with|some (.ow (.ls l))=>ta.run (frz fz ss) fun d=>l.length<sizeLine/\(jD X.K Jx c D).nx ((frz fz ss).set i (.own (l++[d])))|_=>False):=q;split at q
 ·rename_i l el;obtain⟨p,xs,h1,h2,h3,h4,h5⟩:=R.sl.ownL i l el;refine⟨_,h1,.inl ⟨rfl,xs,SqL.of h4⟩,R.le q fun d v H1 R1 e1 r w=>?_⟩;have hp:=e1.sm.app p _ h3 h4;have r5:=R.sl.ups e1 h5;refine⟨p,xs,v,rfl,rfl,hp,by rw [r5.len];exact w.1,w.2 O' σ _ (R1.wr el h1 (r5.append ⟨v,[],rfl,r,rfl⟩))⟩
 ·exact q.elim
theorem Rps.dropLast:∀{ds:List D} {vs:List V},Rps K f O H ds vs->Rps K f O H ds.dropLast vs.dropLast:=fun {ds vs} h=>by
 rw [cF,cF,h.len];exact h.take _
def iE(i:Nat):TSd:=⟨fun E ss=>match ss[i]? with|some (.ow (.ls l))=>l≠[]/\E.nx (ss.set i (.own l.dropLast))|_=>False,fun {E E' ss} h q=>by
 revert q;split
 ·exact fun q=>⟨q.1,h.nx _ q.2⟩
 ·exact id⟩
theorem iE.ok{i:Nat}{x:Expr}{ap cp:Pos}(hx:PE X x (jO i))(hb:attributeBase x "pop" X.env (eval x X.env)=eval x X.env)(hl:(ap.endLine == cp.line)=true)(hw:swapsWith (.Call (.Attribute x "pop" ap) [] [] cp) none pos.line X.env=pure false) :
  PS X (.Expr (.Call (.Attribute x "pop" ap) [] [] cp) pos) (LS X.K Jx (iE i)):=by
 refine (kh (pos:=pos) (nH (apos:=ap) (cpos:=cp) PySem.F.plainAttrs_list PySem.F.slot_list_pop PySem.F.type_list_pop uF hx hb hl) hw).weak fun D σ H ⟨c,O,ss,R,q⟩=>?_;have q:(match ss[i]? with|some (.ow (.ls l))=>l≠[]/\(jD X.K Jx c D).nx (ss.set i (.own l.dropLast))|_=>False):=q;split at q
 ·rename_i l el;obtain⟨p,xs,h1,h2,h3,h4,h5⟩:=R.sl.ownL i l el;have hne:0<l.length:=cM.mpr q.1;obtain⟨v,hv,_⟩:=h5.get (show l[l.length-1]? = some (l[l.length-1]'(by omega)) by simp);exact⟨_,h1,.inl ⟨rfl,xs,SqL.of h4⟩,p,xs,v,rfl,rfl,h4,by rw [h5.len];exact hv,q.2 O σ _ (R.wr el h1 h5.dropLast)⟩
 ·exact q.elim
def gS(j i:Nat):TSd:=⟨fun E ss=>match ss[i]? with|some (.ow (.ls l))=>∃ d,l[l.length-1]? = some d/\E.nx ((ss.set i (.own l.dropLast)).set j (.val d))|_=>False,fun {E E' ss} h q=>by
 revert q;split
 ·exact fun⟨d,q1,q2⟩=>⟨d,q1,h.nx _ q2⟩
 ·exact id⟩
theorem gS.ok{i j:Nat}{y:Str}{x:Expr}{ap cp p':Pos}(hN:X.N.Nodup)(hj:X.N[j]? = some y)(hy:pC X.env.scope y)(hf:X.fn y=true\/X.env.scope.names.lookup y=some .local)(hx:PE X x (jO i))(hb:attributeBase x "pop" X.env (eval x X.env)=eval x X.env)(hl:(ap.endLine == cp.line)=true)(hw:swapsWith (.Call (.Attribute x "pop" ap) [] [] cp) (some (.Name y p')) pos.line X.env=pure false) :
  PS X (.Assign [.Name y p'] (.Call (.Attribute x "pop" ap) [] [] cp) pos) (LS X.K Jx (gS j i)):=by
 refine (jJ (pos:=pos) hN hj hy (nH (apos:=ap) (cpos:=cp) PySem.F.plainAttrs_list PySem.F.slot_list_pop PySem.F.type_list_pop uF hx hb hl) hw hf).weak fun D σ H ⟨c,O,ss,R,q⟩=>?_;have q:(match ss[i]? with|some (.ow (.ls l))=>∃ d,l[l.length-1]? = some d/\(jD X.K Jx c D).nx ((ss.set i (.own l.dropLast)).set j (.val d))|_=>False):=q;split at q
 ·rename_i l el;obtain⟨p,xs,h1,h2,h3,h4,h5⟩:=R.sl.ownL i l el;obtain⟨d,q1,q2⟩:=q;obtain⟨v,hv,rv⟩:=h5.get q1;have R2:=R.wr el h1 h5.dropLast;have kp:Kp O H (i6 H p (.lst xs.dropLast)):=fun b o n q=>by
   rw [iT (by rintro rfl;exact n h2)];exact q
  refine⟨_,h1,.inl ⟨rfl,xs,SqL.of h4⟩,p,xs,v,rfl,rfl,h4,by rw [h5.len];exact hv,q2 O _ _ (R2.to (R2.sl.set (rv.kp kp R.sl.al)) Sub.set)⟩
 ·exact q.elim
def atD(l:List D)(dk:D)(Q:Nat->Prop):Prop:=match dk with | .int z=>(match vB l.length z with|some j=>Q j|none=>False)|_=>False
theorem atD.mono{l:List D}{dk:D}{Q Q':Nat->Prop}(h:∀ j,Q j->Q' j):atD l dk Q->atD l dk Q':=by
 cases dk <;> first|exact id|skip
 unfold atD;dsimp only;split
 ·exact h _
 ·exact id
def gT(fz:List Nat)(i:Nat)(k e:TEd):TSd:=⟨fun E ss=>match (frz fz ss)[i]? with|some (.ow (.ls l))=>e.run (frz fz ss) fun d=>k.run (frz fz ss) fun dk=>atD l dk fun j=>E.nx ((frz fz ss).set i (.own (l.set j d)))|_=>False,fun {E E' ss} h q=>by
 revert q;split
 ·exact e.mono fun d=>k.mono fun dk=>atD.mono fun j=>h.nx _
 ·exact id⟩
theorem gT.ok{fz:List Nat}{i:Nat}{x k:Expr}{tk:TEd}{sp:Pos}(hx:PE X x (jO i))(hk:PE X k (LE X.K Jx tk))(h:PE X a (LE X.K Jx ta))(hs:swapsWithSole [.Subscript x k sp] a pos.line X.env=pure false)(hw:swappedStores [.Subscript x k sp] a X.env=pure none)(h1:(assignEach [.Subscript x k sp] X.env).map (·.2)=[assign (.Subscript x k sp) X.env])
  (hg:PG X (.Subscript x k sp) (A8 (jO i) (LE X.K Jx tk) xE)):PS X (.Assign [.Subscript x k sp] a pos) (LS X.K Jx (gT fz i tk ta)):=by
 refine (j4 (pos:=pos) h hg hs hw h1).weak fun D σ H ⟨c,O,ss,R,q⟩=>?_;obtain⟨O',R⟩:=R.frz (fz:=fz);have q:(match (frz fz ss)[i]? with|some (.ow (.ls l))=>ta.run (frz fz ss) fun d=>tk.run (frz fz ss) fun dk=>atD l dk fun j=>(jD X.K Jx c D).nx ((frz fz ss).set i (.own (l.set j d)))|_=>False):=q;split at q
 ·rename_i l el;obtain⟨p,xs,g1,g2,g3,g4,g5⟩:=R.sl.ownL i l el;refine R.le q fun d v H1 R1 e1 r w=>⟨_,g1,R1.le w fun dk vk H2 R2 e2 rk w=>?_⟩;cases dk <;> first|exact False.elim w|skip
  rename_i z;cases (show vk=_ from rk);unfold atD at w;dsimp only at w;split at w
  ·rename_i j ej;have e12:=e1.trans e2;have r5:=R.sl.ups e12 g5;exact⟨p,xs,z,j,rfl,rfl,e12.sm.app p _ g3 g4,by rw [r5.len];exact ej,w O' σ _ (R2.wr el g1 (r5.set (R1.sl.up e2 r) j))⟩
  ·exact w.elim
 ·exact q.elim
def oAug:Operator->OD
 | .Add=>fun x y Q=>match x,y with | .int i,.int j=>Q (.int (i+j)) | .str a,.str b=>a.length+b.length<=sizeLine/\Q (.str (a++b))|_,_=>False
 | .Sub=>oSub
 | .Mult=>fun x y Q=>match x,y with | .int i,.int j=>CMulB i j/\Q (.int (i*j))|_,_=>False
 | .FloorDiv=>oDiv
 | _=>pZ
theorem oAug.mono{op:Operator}:∀{x y Q Q'},(∀ d,Q d->Q' d)->oAug op x y Q->oAug op x y Q':=by
 cases op;all_goals first|exact oSub.mono|exact oDiv.mono|exact fun _ q=>q|skip
 all_goals (intro x y Q Q' h;cases x <;> cases y <;> intro q <;> first|exact h _ q|exact q|exact⟨q.1,h _ q.2⟩)
theorem tV{k:Nat}(hr:Room k X.A)(op:Operator):Rng X (inplaceOp op) (oAug op):=by
 cases op;case Add =>
  refine⟨_,OpR.or2 wR oU,fun f O σ ss H dx dy x y Q R rx ry h=>?_⟩;cases dx <;> cases dy <;> first|(exact False.elim h)|skip
  ·cases rx;cases ry;exact .inl ⟨_,_,rfl,rfl,h _ H (Ex.refl R.fl) rfl⟩
  ·cases rx;cases ry;exact .inr ⟨_,_,rfl,rfl,h.1,h.2 _ H (Ex.refl R.fl) rfl⟩
 case Sub =>
  refine⟨_,wQ,fun f O σ ss H dx dy x y Q R rx ry h=>?_⟩;cases dx <;> cases dy <;> first|(exact False.elim h)|skip
  cases rx;cases ry;exact⟨_,_,rfl,rfl,h _ H (Ex.refl R.fl) rfl⟩
 case Mult=>exact kZ uR fun dx dy Q h=>by cases dx <;> cases dy <;> first|(exact False.elim h)|exact⟨_,_,rfl,rfl,h.1,h.2⟩
 case FloorDiv=>exact kZ (sP hr) fun dx dy Q h=>by cases dx <;> cases dy <;> first|(exact False.elim h)|exact⟨_,_,rfl,rfl,h.1,h.2⟩
 all_goals exact Rng.never
def ik(fz:List Nat)(i:Nat)(op:Operator)(e:TEd):TSd:=⟨fun E ss=>match (frz fz ss)[i]? with|some (.val x)=>e.run (frz fz ss) fun y=>oAug op x y fun z=>E.nx ((frz fz ss).set i (.val z))|_=>False,fun {E E' ss} h q=>by
 revert q;split
 ·exact e.mono fun y=>oAug.mono fun z=>h.nx _
 ·exact id⟩
theorem ik.ok{k0:Nat}{fz:List Nat}{i:Nat}{x:Str}{op:Operator}{p':Pos}(hk0:Room k0 X.A)(hN:X.N.Nodup)(hi:X.N[i]? = some x)(hx:pC X.env.scope x)(h:PE X a (LE X.K Jx ta))(hf:X.fn x=true\/X.env.scope.names.lookup x=some .local) :
  PS X (.AugAssign (.Name x p') op a pos) (LS X.K Jx (ik fz i op ta)):=by
 obtain⟨r,hr,hd⟩:=tV (X:=X) hk0 op;refine (t7 (pos:=pos) hN hi hx h (ti:=r) hr hf).weak fun D σ H ⟨c,O,ss,R,q⟩=>?_;obtain⟨O',R⟩:=R.frz (fz:=fz);have q:(match (frz fz ss)[i]? with|some (.val x)=>ta.run (frz fz ss) fun y=>oAug op x y fun z=>(jD X.K Jx c D).nx ((frz fz ss).set i (.val z))|_=>False):=q;split at q
 ·rename_i dx ex;obtain⟨v,g1,g2⟩:=R.sl.val i dx ex;refine⟨v,g1,R.le q fun dy y H1 R1 e1 ry w=>?_⟩;refine hd c.f O' σ _ H1 dx dy v y _ R1.sl.tr (R.sl.up e1 g2) ry (oAug.mono (fun z w v' H2 e2 rz=>?_) w);have R2:=R1.ex e2;exact w O' _ H2 (R2.to (R2.sl.set rz) Sub.set)
 ·exact q.elim
def augD(l:List D)(dk:D)(Q:Nat->D->Prop):Prop:=match dk with | .int z=>0<=z/\(match l[z.toNat]? with|some x=>Q z.toNat x|none=>False)|_=>False
theorem augD.mono{l:List D}{dk:D}{Q Q':Nat->D->Prop}(h:∀ j x,Q j x->Q' j x):augD l dk Q->augD l dk Q':=by
 cases dk <;> first|exact id|skip
 unfold augD;dsimp only;split
 ·exact fun q=>⟨q.1,h _ _ q.2⟩
 ·exact id
def gw(fz:List Nat)(i:Nat)(k:TEd)(op:Operator)(e:TEd):TSd:=⟨fun E ss=>match (frz fz ss)[i]? with|some (.ow (.ls l))=>k.run (frz fz ss) fun dk=>augD l dk fun j x=>e.run (frz fz ss) fun y=>oAug op x y fun z=>E.nx ((frz fz ss).set i (.own (l.set j z)))|_=>False,fun {E E' ss} h q=>by
 revert q;split
 ·exact k.mono fun dk=>augD.mono fun j x=>e.mono fun y=>oAug.mono fun z=>h.nx _
 ·exact id⟩
theorem gw.ok{k0:Nat}{fz:List Nat}{i:Nat}{x k:Expr}{tk:TEd}{op:Operator}{sp:Pos}(hk0:Room k0 X.A)(hx:PE X x (jO i))(hk:PE X k (LE X.K Jx tk))(h:PE X a (LE X.K Jx ta))(ha:∀ ov iv new,augStore k ov iv new=(do holding [new,ov,iv] (setItem ov iv new);release [new,ov,iv] [];pure .next)) :
  PS X (.AugAssign (.Subscript x k sp) op a pos) (LS X.K Jx (gw fz i tk op ta)):=by
 obtain⟨r,hr,hd⟩:=tV (X:=X) hk0 op;refine (vZ (pos:=pos) (tpos:=sp) hx hk (Cu X.K) h (tip:=r) hr jz ha).weak fun D σ H ⟨c,O,ss,R,q⟩=>?_;obtain⟨O',R⟩:=R.frz (fz:=fz);have q:(match (frz fz ss)[i]? with|some (.ow (.ls l))=>tk.run (frz fz ss) fun dk=>augD l dk fun j x=>ta.run (frz fz ss) fun y=>oAug op x y fun z=>(jD X.K Jx c D).nx ((frz fz ss).set i (.own (l.set j z)))|_=>False):=q;split at q
 ·rename_i l el;obtain⟨p,xs,g1,g2,g3,g4,g5⟩:=R.sl.ownL i l el;refine⟨_,g1,R.le q fun dk vk H1 R1 e1 rk w=>?_⟩;cases dk <;> first|exact False.elim w|skip
  rename_i z;cases (show vk=_ from rk);obtain⟨z0,w⟩:=w;obtain⟨j,rfl⟩:=aM z0;rw [aI] at w;split at w
  ·rename_i dx hx;obtain⟨v,hv,rv⟩:=g5.get hx;refine⟨p,xs,v,j,rfl,rfl,SqL.of (e1.sm.app p _ g3 g4),hv,R1.le w fun dy y H2 R2 e2 ry w=>?_⟩;refine hd c.f O' σ _ H2 dx dy v y _ R2.sl.tr (R1.sl.up e2 (R.sl.up e1 rv)) ry (oAug.mono (fun z w v' H3 e3 rz=>?_) w);have R3:=R2.ex e3;have e13:=e1.trans (e2.trans e3);have r5:=R.sl.ups e13 g5;have hj:j<xs.length:=(aq.mp hv).1;refine⟨p,xs,_,j,rfl,rfl,e13.sm.app p _ g3 g4,?_,w O' σ _ (R3.wr el g1 (r5.set rz j))⟩;unfold vB;rw [if_pos (by omega),if_pos (by omega),aI]
  ·exact w.elim
 ·exact q.elim
def ownInt(l:D)(b:TEd)(s:SS)(Q:List D->Int->Prop):Prop:=match l with
 | .lst l=>b.run s fun d=>match d with | .int z=>Q l z|_=>False
 | _=>False
theorem ownInt.mono{l:D}{b:TEd}{s:SS}{Q Q':List D->Int->Prop}(h:∀ l z,Q l z->Q' l z):ownInt l b s Q->ownInt l b s Q':=by
 cases l <;> first|exact id|skip
 exact b.mono fun d q=>by
  revert q;cases d <;> first|exact id|exact h _ _
def gU(fz:List Nat)(i j:Nat)(a b:TEd):TSd:=⟨fun E ss=>a.run (frz fz ss) fun d=>ownInt d b (frz fz ss) fun l z=>E.nx (((frz fz ss).set i (.own l)).set j (.val (.int z))),fun h q=>a.mono (fun d q=>ownInt.mono (fun l z q=>h.nx _ q) q) q⟩
theorem gU.weak{fz:List Nat}{i j:Nat}{D:Ends}{σ:St}{ta tb:TEd}(h:LS X.K Jx (gU fz i j ta tb) D σ H):yh i j (mG (LF X.K Jx ta) (mG (LE X.K Jx tb) vK)) D σ H:=by
 obtain⟨c,O,ss,R,q⟩:=h;obtain⟨O',R⟩:=R.frz (fz:=fz);refine⟨c.f,O',_,R.sl,ta.mono (fun d q=>?_) q⟩;cases d <;> first|exact False.elim q|skip
 rename_i l;refine⟨l,rfl,fun p xs H1 e1 hp hx r=>?_⟩;have R1:=R.ex e1;refine R1.le q fun d' v' H2 R2 e2 r' w=>?_;cases d' <;> first|exact False.elim w|skip
 rename_i z;cases (show v'=_ from r');have pO:p ∉ O':=fun hO=>by
  rcases R.sl.al p hO with⟨ys,hy⟩|⟨ys,hy⟩ <;> (rw [hp] at hy;cases hy)
 have kp:=e2.kp R1.sl.fO;have kp':Kp (p::O') H1 H2:=fun b o n h=>kp b o (fun z=>n (ar _ z)) h;have al':∀ b∈p::O',Ow H1 b:=fun b hb=>by
  rcases ah.mp hb with z|z
  ·exact .inl ⟨xs,z ▸ hx⟩
  ·exact R1.sl.al b z
 have R3:=R.mkOwn (i:=i) (e1.trans e2) hp (kp p _ pO hx) (r.kp kp' al');exact⟨.ref p,.int z,rfl,w (p::O') _ H2 (R3.to (R3.sl.set (i:=j) (d:=.int z) (v:=.int z) rfl) Sub.set)⟩
def startD(n:Nat)(ds:List D):SS:=ds.map SD.val++List.replicate (n-ds.length) SD.no
theorem Cw{H':Hp}(fl:Fl H' f)(k:Kpc ⟨f,O,H,O⟩ H'):Ex f H H':=⟨⟨fun b o n h=>k.kp b o h n (by by_cases z:b∈O;exact .inl z;exact .inr z),k.key⟩,fl⟩
theorem startD.ok{N:List Str}{ds:List D}{vs:List V}(fl:Fl H f)(fO:f∈O)(al:∀ a∈O,Ow H a)(lO:∀ l r,H f=some (.lst (.ref l::r))->l ∉ O)(r:Rps K f O H ds vs)(hj:∀ H',Ex f H H'->Jx H'):StR K Jx ⟨f,O,H,O⟩ O (L2.start N vs) H (startD N.length ds):=by
 have len:(startD N.length ds).length=(L2.start N vs).length:=by
  unfold startD L2.start;rw [aB,aB,aj,aj,bZ,bZ,r.len]
 have get:∀{i:Nat} {s:SD},(startD N.length ds)[i]? = some s->(∃ d,s = .val d/\ds[i]? = some d)\/s = .no:=fun {i s} h=>by
  unfold startD at h;rcases bO i (ds.map SD.val).length with z|z
  ·rw [ba z,aA] at h;obtain⟨d,h1,h2⟩:=aa.mp h;exact .inl ⟨d,h2.symm,h1⟩
  ·rw [bz z] at h;exact .inr (cC (aF h))
 refine⟨⟨fl,fO,al,lO,len,fun i d h=>?_,fun i l h=>?_,hj⟩,fun _ h=>h,⟨fun _ _ h _ _=>h,fun l r h=>⟨r,h⟩⟩,fun a h=>.inl h,fun i l a h=>?_,fun H' fl' k=>hj H' (Cw fl' k)⟩
 ·rcases get h with⟨d',e,h1⟩|e
  ·cases e;obtain⟨v,h2,h3⟩:=r.get h1;refine⟨v,?_,h3⟩;unfold L2.start;have hv:=(aq.mp h2).1;rw [ba (by rw [aj];exact hv),aA,h2];rfl
  ·cases e
 ·rcases get h with⟨d',e,h1⟩|e <;> cases e
 ·rcases get h with⟨d',e,h1⟩|e <;> cases e
@[reducible] def jA(Q:D->Prop):EndsD:=⟨fun _=>Q .non,Q,fun _=>False,fun _=>False⟩
def Does(n:Nat)(t:TSd)(s:SpB):Prop:=∀ ds Q,ds.length=s.n->s.run ds Q->t.run (jA Q) (startD n ds)
theorem Does.ok{t:TSd}{s:SpB}{N:List Str}(h:Does N.length t s){vs:List V}{Q:VK}{E:XK}(hs:ms K s.n s.run vs H Q E):LS K (fun _=>True) t { nx:=fun _ H'=>Q .non H',rt:=Q } (L2.start N vs) H:=by
 obtain⟨hn,f,O,ds,fl,fO,al,lO,r,q⟩:=hs;refine⟨⟨f,O,H,O⟩,O,_,startD.ok fl fO al lO r fun _ _=>trivial,?_⟩;have q:=h ds _ (r.len.symm.trans hn) q;refine t.mono ?_ q;refine⟨fun s q O' σ' H' R=>?_,fun d q v H' R=>?_,fun _ q=>q.elim,fun _ q=>q.elim⟩
 ·exact q .non H' ⟨⟨fun b o n h=>R.kp.kp b o h n (by by_cases z:b∈O;exact .inl z;exact .inr z),R.kp.key⟩,R.sl.fl⟩ rfl
 ·exact q v H' ⟨⟨fun b o n h=>R.kp.kp b o h n (by by_cases z:b∈O;exact .inl z;exact .inr z),R.kp.key⟩,R.fl⟩ R.rp
end Dp
namespace Dp
open PySem L2
variable{K:Frag}{Jx:Hp->Prop}{f:Addr}{O O':List Addr}{H H':Hp}{X:Cx}{σ:St}{ss:SS}{a b:Expr}{ta tb tc:TEd}{tA tB:TTd}{pos:Pos}{c:Cs}
def tz(K:Frag)(n:Nat)(sp:BH):Sp:=fun vs H Q _=>vs.length=n/\∃ f O ds,Fl H f/\f∈O/\(∀ a∈O,Ow H a)/\(∀ l r,H f=some (.lst (.ref l::r))->l ∉ O)/\Rps K f O H ds vs/\sp ds fun d=>∃ l,d = .lst l/\∀ p xs H',Ex f H H'->H p=none->H' p=some (.lst xs)->Rps K f (p::O) H' l xs->Q (.ref p) H'
theorem dh.okF{e:Expr}{s:SpB}{t:TAd}(h:PE X e (kK (tz X.K s.n s.run) [] E0 (LA X.K Jx t))):PE X e (LF X.K Jx (dh s t)):=h.weak fun σ H Q ⟨f,O,ss,S,q⟩ =>
 ⟨f,O,ss,S,t.mono (fun ds q vs H1 e1 r1=>by
  have S1:=S.ex e1;refine⟨by rw [aL,r1.len];exact q.1,f,O,ds,S1.fl,S1.fO,S1.al,S1.lO,by rw [aL];exact r1,?_⟩;exact s.mono (fun d ⟨l,el,q⟩=>⟨l,el,fun p xs H' e hp hx r=>q p xs H' (e1.trans e) (e1.low (fun z=>S1.nO hp (z ▸ S1.fO)) hp) hx r⟩) q.2) q⟩
def fI(pk:List Nat)(k:TTd)(t u:TSd):TSd:=⟨fun E ss=>k.run (frz pk ss) fun b=>if b=true then t.run E ss else u.run E ss,fun {E E' ss} h q=>k.mono (fun b q=>by
 revert q;cases b
 ·exact u.mono h
 ·exact t.mono h) q⟩
theorem fI.ok{pk:List Nat}{st su:List Stmt}{t u:TSd}(hk:PT X a (LT X.K Jx tA))(ht:PSs X st (LS X.K Jx t))(hu:PSs X su (LS X.K Jx u)):PS X (.If a st su pos) (LS X.K Jx (fI pk tA t u)):=(lu hk ht hu).weak fun D σ H ⟨c,O,ss,R,q⟩=>by
 obtain⟨O',R'⟩:=R.frz (fz:=pk);refine⟨c.f,O',_,R'.sl,tA.mono (fun b w H1 e=>?_) q⟩;cases b
 ·exact⟨c,O,_,R.ex e,w⟩
 ·exact⟨c,O,_,R.ex e,w⟩
def iF(i:Nat):TSd:=⟨fun E ss=>match ss[i]? with|some (.ow (.ls _))=>E.nx (ss.set i (.own []))|_=>False,fun {E E' ss} h q=>by
 revert q;split
 ·exact fun q=>h.nx _ q
 ·exact id⟩
theorem iF.ok{i:Nat}{x:Expr}{ap cp:Pos}(hx:PE X x (jO i))(hb:attributeBase x "clear" X.env (eval x X.env)=eval x X.env)(hl:(ap.endLine == cp.line)=true)(hw:swapsWith (.Call (.Attribute x "clear" ap) [] [] cp) none pos.line X.env=pure false) :
  PS X (.Expr (.Call (.Attribute x "clear" ap) [] [] cp) pos) (LS X.K Jx (iF i)):=by
 refine (kh (pos:=pos) (nH (apos:=ap) (cpos:=cp) PySem.F.plainAttrs_list PySem.F.slot_list_clear PySem.F.type_list_clear uG hx hb hl) hw).weak fun D σ H ⟨c,O,ss,R,q⟩=>?_;have q:(match ss[i]? with|some (.ow (.ls _))=>(jD X.K Jx c D).nx (ss.set i (.own []))|_=>False):=q;split at q
 ·rename_i l el;obtain⟨p,xs,h1,h2,h3,h4,h5⟩:=R.sl.ownL i l el;exact⟨_,h1,.inl ⟨rfl,xs,SqL.of h4⟩,p,xs,rfl,rfl,h4,q O σ _ (R.wr el h1 Rps.nil)⟩
 ·exact q.elim
end Dp
namespace Dp
open PySem L2
variable{K:Frag}{Jx:Hp->Prop}{f:Addr}{O O':List Addr}{H H':Hp}{X:Cx}{σ:St}{ss:SS}{a b:Expr}{ta tb tc:TEd}{tA tB:TTd}{pos:Pos}{c:Cs}
mutual
def D.lf:D->Bool
 | .tup ds=>D.lfs ds
 | .lst _=>false | .fl=>false | .fn _=>true
 | .exn _ _ ds=>D.lfs ds
 | .dct _ _=>false
 | .int _=>true | .str _=>true | .non=>true | .bl _=>true
def D.lfs:List D->Bool
 | []=>true
 | d::ds=>d.lf && D.lfs ds
end
mutual
theorem Rp.any:∀{d:D} {v:V},d.lf=true->Rp K f O H d v->Rp K f O' H d v
 | .non,_,_,h=>h
 | .bl _,_,_,h=>h
 | .int _,_,_,h=>h
 | .str _,_,_,h=>h
 | .fl,_,z,_=>by cases z
 | .fn _,_,_,h=>h
 | .lst _,_,z,_=>by cases z
 | .tup l,v,z,h=>by
  obtain⟨a,xs,e1,h1,h2⟩:=h;exact⟨a,xs,e1,h1,Rps.any z h2⟩
 | .exn C x l,v,z,h=>by
  obtain⟨a,us,e1,h1,h2⟩:=h;exact⟨a,us,e1,h1,Rps.any z h2⟩
 | .dct _ _,_,z,_=>by cases z
theorem Rps.any:∀{ds:List D} {vs:List V},D.lfs ds=true->Rps K f O H ds vs->Rps K f O' H ds vs
 | [],_,_,h=>h
 | d::ds,_,z,h=>by
  have z:=ae.mp (show (d.lf && D.lfs ds)=true from z);obtain⟨v,r,e1,h1,h2⟩:=h;exact⟨v,r,e1,Rp.any z.1 h1,Rps.any z.2 h2⟩
end
def gV(pk:List Nat)(i:Nat)(e:TEd):TSd:=⟨fun E ss=>e.run (frz pk ss) fun d=>d.lf=true/\E.nx (ss.set i (.val d)),fun h q=>e.mono (fun d q=>⟨q.1,h.nx _ q.2⟩) q⟩
theorem gV.ok{pk:List Nat}{i:Nat}{x:Str}{p':Pos}(hN:X.N.Nodup)(hi:X.N[i]? = some x)(hx:pC X.env.scope x)(h:PE X a (LE X.K Jx ta))(hs:swapsWith a (some (.Name x p')) pos.line X.env=pure false)(hf:X.fn x=true\/X.env.scope.names.lookup x=some .local) :
  PS X (.Assign [.Name x p'] a pos) (LS X.K Jx (gV pk i ta)):=(jJ hN hi hx h hs hf).weak fun D σ H ⟨c,O,ss,R,q⟩=>by
 obtain⟨O',R'⟩:=R.frz (fz:=pk);refine⟨c.f,O',_,R'.sl,ta.mono (fun d q v H1 e r=>?_) q⟩;have R1:=R.ex e;exact q.2 O _ H1 (R1.to (R1.sl.set (r.any q.1)) Sub.set)
end Dp
namespace L2
open PySem PySem.Spec PyProof.Rows
theorem lP:∀{zs:List Str} {us:List Value},Vals (zs.map V.str) us->StrsAre us zs
 | [],_,.nil=>.nil
 | z::zs,_,.cons r t=>by
  obtain⟨tk,rfl⟩:=(show ∃ t,_=Value.str z t from r);exact .cons _ _ (lP t)
variable{X:Cx}
def Az(K:Frag):V->List V->Hp->VK->Prop:=fun x vs H Q=>∃ sep a zs,x = .str sep/\vs=[.ref a]/\SqL K H a (zs.map V.str)/\sep.length<=16/\(zs.map (·.length)).sum+zs.length<=1048576/\Q (.str (Txt.join sep zs)) H
theorem wF:zU X "str.join" (Az X.K):=by
 intro pins s σ H x vs v us Q I rx rv h;obtain⟨sep,a,zs,rfl,rfl,hl,hs,hw,q⟩:=h;obtain⟨t,rfl⟩:=(show ∃ t,v=Value.str sep t from rx);obtain⟨u,rfl,ru⟩:=rv.one;cases ru;obtain⟨its,r,p,_⟩:=I.list hl;exact join_listW p.isList (by simpa using lP r) hs hw fun t' k=>⟨.str _,H,I.tok k,⟨t',rfl⟩,q⟩
end L2
namespace Dp
open PySem L2 Ex8
variable{K:Frag}{Jx:Hp->Prop}{f:Addr}{O O':List Addr}{H H':Hp}{X:Cx}{σ:St}{ss:SS}{a b c:Expr}{ta tb tc:TEd}{pos:Pos}
def CB:V->Option Value
 | .ref a=>some (.ref a) | .ty n=>some (.type n)|_=>none
theorem w9{y:V}{c u:Value}(h:CB y=some c)(r:RelV y u):u=c:=by
 cases y <;> first|(cases h;done)|skip
 ·cases h;exact r
 ·cases h;exact r
theorem Co:CallR X (.builtin "isinstance") (fun xs H Q=>∃ e C N cd d u y c b,xs=[.ref e,y]/\CB y=some c/\H e=some (j8 e C d u)/\(∀ dx,d=some dx->∃ fs,H dx=some (.xd fs))/\Xi X.K C N cd/\PySem.W.kitOne X.K (.ref C) c=some b/\Q (.bl b) H):=by
 intro pins s σ H xs us Q I rv h;obtain⟨e,C,N,cd,d,u,y,c,b,rfl,hc,he,hd,k,kb,q⟩:=h;obtain⟨u1,u2,rfl,r1,r2⟩:=rv.two;cases r1;rw [w9 hc r2];exact tH I he hd k kb fun tk=>⟨.bl b,H,I.tok tk,rfl,q⟩
def gI(g:Addr->Option Bool)(t:TEd):TEd:=⟨fun ss Q=>t.run ss fun d=>∃ C x l b,d = .exn C x l/\g C=some b/\Q (.bl b),fun h q=>t.mono (fun d ⟨C,x,l,b,e,h1,q⟩=>⟨C,x,l,b,e,h1,h _ q⟩) q⟩
theorem gI.ok{g:Addr->Option Bool}{y:V}{cv:Value}{p:Pos}(hg:Gl X "isinstance")(hm:X.mg "isinstance" = none)(hy:PE X b (tC y))(hc:CB y=some cv)(hk:∀ C k,g C=some k->∃ N cd,Xi X.K C N cd/\PySem.W.kitOne X.K (.ref C) cv=some k)
  (ha:PE X a (LE X.K Jx ta)) (hs:∀ es,starEach (a::es) X.env=(false,eval a X.env)::starEach es X.env) (hb:starEach [b] X.env=[(false,eval b X.env)]):PE X (.Call (.Name "isinstance" p) [a,b] [] pos) (LE X.K Jx (gI g ta)):=by
 refine (i7 (p:=p) (pos:=pos) Co hg hm i5 (iS ha (iS hy pa_nil hb) (hs _)) (by decide) (by decide) (hs _) (by rw [hb];rfl)).weak fun σ H Q ⟨f,O,ss,S,q⟩=>⟨f,O,ss,S,ta.mono (fun d q v H1 e r=>?_) q⟩;obtain⟨C,x,l,k,rfl,ek,q⟩:=q;obtain⟨a,us,rfl,xo,_⟩:=r;obtain⟨N,cd,k1,k2⟩:=hk C k ek;rcases xo with⟨_,u,h1⟩|⟨dx,u,y',_,h1,h2⟩
 ·exact⟨a,C,N,cd,none,u,y,cv,k,rfl,hc,h1,fun dx z=>(by cases z),k1,k2,q _ H1 e rfl⟩
 ·exact⟨a,C,N,cd,some dx,u,y,cv,k,rfl,hc,h1,fun dx' z=>(by cases z;exact⟨_,h2⟩),k1,k2,q _ H1 e rfl⟩
def g8(x:Str)(ok:Addr->Bool)(t:TEd):TEd:=⟨fun ss Q=>t.run ss fun d=>∃ C d',d = .exn C x [d']/\ok C=true/\Q d',fun h q=>t.mono (fun d ⟨C,d',e,h1,q⟩=>⟨C,d',e,h1,h _ q⟩) q⟩
theorem g8.ok{x:Str}{ok:Addr->Bool}(hk:∀ C,ok C=true->∃ N cd,Xc X.K C N cd/\lq X.K C x)(ha:PE X a (LE X.K Jx ta))(hb:attributeBase a x X.env (eval a X.env)=eval a X.env):PE X (.Attribute a x pos) (LE X.K Jx (g8 x ok ta)):=by
 refine (v6 (pos:=pos) ha hb).weak fun σ H Q ⟨f,O,ss,S,q⟩=>⟨f,O,ss,S,ta.mono (fun d q v H1 e r=>?_) q⟩;obtain⟨C,d',rfl,kC,q⟩:=q;obtain⟨N,cd,c,n⟩:=hk C kC;obtain⟨a,us,rfl,xo,rs⟩:=r;obtain⟨w,us',e1,r1,e2⟩:=rs;have e2:us'=[]:=e2;subst e2;subst e1;rcases xo with⟨z,_⟩|⟨dx,u,y',e3,h1,h2⟩
 ·cases z
 ·cases e3;exact⟨a,C,N,cd,dx,u,_,w,rfl,h1,h2,c,n,by simp [List.lookup],q w H1 e r1⟩
def Dl(K:Frag)(x:Str):Sp:=fun vs H Q _=>∃ e C N cd u y,vs=[.ref e,y]/\H e=some (j8 e C none u)/\Xc K C N cd/\lq K C x/\∀ dx,H dx=none->dx≠e->Q .non (i6 (i6 H e (j8 e C (some dx) u)) dx (.xd [(x,y)]))
structure XDef (P:Program)(w:World)(K:Frag)(mg:Str->Option Value)(base:Heap)(nm:Str)(k:Nat)(C:Addr)(x:Str):Prop where
 ex:∃ f fd ps N cd,FnOk P w K mg base om k f fd ps (Dl K x)/\mg nm=some (.ref C)/\PySem.W.keepIn K (.ref C)=true/\Binds K fd ps []/\lz K C N=true/\PySem.W.findIn K (.ref C) "__init__" = some (some (.ref f))/\PySem.W.typeIn K (.ref f)=some (.type "function")/\Xc K C N cd/\lq K C x
def CU(C:Addr)(x:Str):SpB:=⟨1,fun ds Q=>∃ d,ds=[d]/\Q (.exn C x [d]),fun h ⟨d,e,q⟩=>⟨d,e,h _ q⟩⟩
theorem uc{e:Expr}{es:List Expr}{t:TA}{nm x:Str}{p:Pos}{j k:Nat}{C:Addr}(g:XDef X.prog X.w X.K X.mg X.base nm j C x)(hr:Room k X.A)(ha:PA X (e::es) t)(hjk:j+1<=k)(hg:Gl X nm)
  (hdb:(nm == ("__debug__" : Str))=false) (he:starEach (e::es) X.env=(false,eval e X.env)::starEach es X.env) (hpl:(backTo pos (starEach es X.env)).any (·.1)=false):PE X (.Call (.Name nm p) (e::es) [] pos) (kK (ms X.K 1 (CU C x).run) [] E0 t):=by
 obtain⟨f0,fd,ps,N,cd,F,hm,kp,hb,em,hi,hf,c,n⟩:=g.ex;intro pins s σ H Q I h;refine wpAny_Call_Name_kw (kj I hg hm ?_ hdb);refine PySem.W.callWith_K (h₀:=X.base) I.ok.mod.kin kp (ja (ha pos pins s σ H _ I h) fun us s1 ⟨vs,H1,I1,r,q⟩=>⟨I1.kIn,?_⟩) he hpl;obtain⟨hn,f,O,ds,fl,fO,al,lO,rr,d,rfl,q⟩:=q;rw [aL] at rr;obtain⟨v,vs',rfl,r1,e2⟩:=rr;have e2:vs'=[]:=e2;subst e2;refine mK em hi hf F (hr.mono hjk) hb .nil ui I1 r (show 1<=100 by decide) fun p0 u hp _=>⟨p0,C,N,cd,fx u,v,rfl,iU,c,n,fun dx hd ne=>⟨rfl,?_⟩⟩;rw [iT ne] at hd;rw [qK];have hd':i6 H1 p0 (j8 p0 C (some dx) (fx u)) dx=none:=by rw [iT ne];exact hd
 have ex1:Ex f H1 (i6 H1 p0 (j8 p0 C (some dx) (fx u))):=Ex.new fl hp _;have ex2:Ex f (i6 H1 p0 (j8 p0 C (some dx) (fx u))) (i6 (i6 H1 p0 (j8 p0 C (some dx) (fx u))) dx (.xd [(x,v)])):=Ex.new ex1.fl hd' _;have ex:=ex1.trans ex2;refine q _ _ ex ⟨p0,[v],rfl,.inr ⟨dx,fx u,v,rfl,?_,iU⟩,v,[],rfl,r1.kp (ex.kp fO) al,rfl⟩;rw [iT (Ne.symm ne),iU]
def iG(C:Addr):TEd:=⟨fun _ Q=>Q (.exn C Str.empty []),fun h q=>h _ q⟩
theorem iG.ok{nm:Str}{p:Pos}{C N:Addr}(em:lz X.K C N=true)(hi:PySem.W.findIn X.K (.ref C) "__init__" = some (some (.builtin "ValueError.__init__")))(hk:PySem.W.keepIn X.K (.ref C)=true)(hg:Gl X nm)(hm:X.mg nm=some (.ref C))(hdb:(nm == ("__debug__" : Str))=false) :
  PE X (.Call (.Name nm p) [] [] pos) (LE X.K Jx (iG C)):=(si em hi hk hg hm hdb).weak fun σ H Q ⟨f,O,ss,S,q⟩ p0 u hp =>
 q _ _ (S.new hp _) ⟨p0,[],rfl,.inl ⟨rfl,fx u,iU⟩,rfl⟩
def ft(sep:Str)(t:TEd):TEd:=⟨fun ss Q=>t.run ss fun d=>∃ zs:List Str,d = .lst (zs.map D.str)/\sep.length<=16/\(zs.map (·.length)).sum+zs.length<=1048576/\Q (.str (Txt.join sep zs)),fun h q=>t.mono (fun d ⟨zs,e,h1,h2,q⟩=>⟨zs,e,h1,h2,h _ q⟩) q⟩
theorem Rps.strsX:∀{zs:List Str} {vs:List V},Rps K f O H (zs.map D.str) vs->vs=zs.map V.str
 | [],_,h=>h
 | z::zs,_,h=>by
  obtain⟨v,r,e1,h1,h2⟩:=h;rw [e1,Rps.strsX h2,show v = .str z from h1];rfl
theorem ft.ok{sep:Str}{o:Expr}{ap cp:Pos}(ho:PE X o (tC (.str sep)))(ha:PE X a (LE X.K Jx ta))(hb:attributeBase o "join" X.env (eval o X.env)=eval o X.env)(hl:(ap.endLine == cp.line)=true)(hs:starEach [a] X.env=[(false,eval a X.env)]) :
  PE X (.Call (.Attribute o "join" ap) [a] [] cp) (LE X.K Jx (ft sep ta)):=by
 refine (mN (apos:=ap) (cpos:=cp) PySem.F.plainAttrs_str PySem.F.slot_str_join PySem.F.type_str_join wF ho (iS ha pa_nil hs) hb (by rw [hs];rfl) hl hs rfl).weak fun σ H Q ⟨f,O,ss,S,q⟩=>?_;refine⟨rfl,f,O,ss,S,ta.mono (fun d q v H1 e r=>?_) q⟩;obtain⟨zs,rfl,h1,h2,q⟩:=q;obtain⟨a,xs,rfl,_,h3,r3⟩:=r;rw [Rps.strsX r3] at h3;exact⟨sep,a,zs,rfl,rfl,SqL.of h3,h1,h2,q _ H1 e rfl⟩
def gW(t:TEd):TEd:=⟨fun ss Q=>t.run ss fun d=>∃ i,d = .int i/\Q (.int ((Builtin.Int.intBits i:Nat):Int)),fun h q=>t.mono (fun d ⟨i,e,q⟩=>⟨i,e,h _ q⟩) q⟩
theorem gW.ok{ap cp:Pos}(ha:PE X a (LE X.K Jx ta))(hb:attributeBase a "bit_length" X.env (eval a X.env)=eval a X.env)(hl:(ap.endLine == cp.line)=true):PE X (.Call (.Attribute a "bit_length" ap) [] [] cp) (LE X.K Jx (gW ta)):=by
 refine (nH (apos:=ap) (cpos:=cp) PySem.F.plainAttrs_int PySem.F.slot_int_bit_length PySem.F.type_int_bit_length wG ha hb hl).weak fun σ H Q ⟨f,O,ss,S,q⟩=>?_;refine⟨f,O,ss,S,ta.mono (fun d q v H1 e r=>?_) q⟩;obtain⟨i,rfl,q⟩:=q;cases r;exact⟨rfl,i,rfl,rfl,q _ H1 e rfl⟩
end Dp
namespace Dp
open PySem L2
variable{K:Frag}{Jx:Hp->Prop}{f:Addr}{O O':List Addr}{H H':Hp}{X:Cx}{σ:St}{ss:SS}{pos:Pos}
def fY(fz:List Nat)(i:Nat)(e:TEd):TSd:=⟨fun E ss=>match (frz fz ss)[i]? with|some (.ow (.ls l))=>e.run (frz fz ss) fun d=>∃ l',d = .lst l'/\l.length+l'.length<=sizeLine/\E.nx ((frz fz ss).set i (.own (l++l')))|_=>False,fun {E E' ss} h q=>by
 revert q;split
 ·exact e.mono fun d ⟨l',a,b,q⟩=>⟨l',a,b,h.nx _ q⟩
 ·exact id⟩
theorem fY.ok{a:Expr}{ta:TEd}{fz:List Nat}{i:Nat}{x:Expr}{ap cp:Pos}(hx:PE X x (jO i))(hb:attributeBase x "extend" X.env (eval x X.env)=eval x X.env)(h:PE X a (LE X.K Jx ta))(hs:starEach [a] X.env=[(false,eval a X.env)])(hl:(ap.endLine == cp.line)=true)(hw:swapsWith (.Call (.Attribute x "extend" ap) [a] [] cp) none pos.line X.env=pure false) :
  PS X (.Expr (.Call (.Attribute x "extend" ap) [a] [] cp) pos) (LS X.K Jx (fY fz i ta)):=by
 refine (kh (pos:=pos) (mN (apos:=ap) (cpos:=cp) PySem.F.plainAttrs_list PySem.F.slot_list_extend PySem.F.type_list_extend sG hx (iS h pa_nil hs) hb (by rw [hs];rfl) hl hs rfl) hw).weak fun D σ H ⟨c,O,ss,R,q⟩=>?_;obtain⟨O',R⟩:=R.frz (fz:=fz);have q:(match (frz fz ss)[i]? with|some (.ow (.ls l))=>ta.run (frz fz ss) fun d=>∃ l',d = .lst l'/\l.length+l'.length<=sizeLine/\(jD X.K Jx c D).nx ((frz fz ss).set i (.own (l++l')))|_=>False):=q;split at q
 ·rename_i l el;obtain⟨p,xs,h1,h2,h3,h4,h5⟩:=R.sl.ownL i l el;refine⟨_,h1,.inl ⟨rfl,xs,SqL.of h4⟩,R.le q fun d v H1 R1 e1 r ⟨l',ed,w1,w2⟩=>?_⟩;subst ed;obtain⟨b,zs,rfl,nb,hb',rs⟩:=r;have hp:=e1.sm.app p _ h3 h4;have r5:=R.sl.ups e1 h5;exact⟨p,b,xs,zs,rfl,rfl,hp,hb',by rw [r5.len,rs.len];exact w1,w2 O' σ _ (R1.wr el h1 (r5.append rs))⟩
 ·exact q.elim
end Dp
set_option maxHeartbeats 1000000
namespace DL
open PySem PySem.Spec PyProof.Rows L2
variable{prog:Program}{w:World}{A:Around}{E:Value->Shared->Prop}{s:Shared}
theorem Bc:fillsInplaceSlot (.type "list") "add" true=pure false:=by
 unfold fillsInplaceSlot;dsimp only;rw [F.slot_list_iadd.lookup];rfl
theorem r9:typeLookup (.type "list") (dunderR "add")=pure none:=am_miss_of_fast (by decide +kernel)
theorem zn:fillsNumberSlot (.type "list") "add" = pure false:=by
 unfold fillsNumberSlot;dsimp only;rw [F.slot_list_add.lookup,r9];rfl
theorem one{l b:Addr}(h1:s.TypeIs (.ref l) "list")(h2:s.TypeIs (.ref b) "list"){Q:Option Value->Shared->Prop}(q:Q none s):wpAny (model prog w) A (binaryOp1 "add" (.ref l) (.ref b)) Q E s:=by
 unfold binaryOp1;refine wpAny_bind (wpAny_typeOf h1 ?_);refine wpAny_bind (wpAny_typeOf h2 ?_);refine wpAny_bind ?_;rw [zn];refine wpAny_pure ?_;dsimp only;have e:(Value.type "list" == Value.type "list")=true:=by decide
 rw [e];refine wpAny_bind (wpAny_pure ?_);simp only [cw,a9,if_false];refine wpAny_bind (wpAny_pure ?_);exact wpAny_pure q
theorem seq:seqSlot? (.type "list") (dunderI "add")=pure (some (.builtin "list.__iadd__")):=by
 unfold seqSlot?;dsimp only;rw [F.slot_list_iadd.lookup];rfl
theorem sS{l b:Addr}{Q:Value->Shared->Prop}(h1:s.TypeIs (.ref l) "list")(h2:s.TypeIs (.ref b) "list")(q:wpAny (model prog w) A (call (.builtin "list.__iadd__") [.ref l,.ref b]) Q E s):wpAny (model prog w) A (inplaceOp .Add (.ref l) (.ref b)) Q E s:=by
 unfold inplaceOp;refine wpAny_holding ?_;dsimp only;refine wpAny_bind (wpAny_typeOf h1 ?_);refine wpAny_bind ?_;show wpAny _ _ (fillsInplaceSlot (.type "list") "add" true) _ _ _;rw [Bc];refine wpAny_pure ?_;simp only [a9,if_false];show wpAny _ _ (binaryOp1 "add" (.ref l) (.ref b) >>= _) _ _ _;refine wpAny_bind (one h1 h2 ?_);dsimp only;show wpAny _ _ (seqSlot? (.type "list") (dunderI "add") >>= _) _ _ _;rw [seq];refine wpAny_bind (wpAny_pure ?_);exact wpAny_bind (wpAny_rule q)
end DL
namespace L2
open PySem PySem.Spec
variable{X:Cx}
def CS:zT:=fun x y H Q=>∃ l b xs zs,x = .ref l/\y = .ref b/\H l=some (.lst xs)/\H b=some (.lst zs)/\xs.length+zs.length<=sizeLine/\Q (.ref l) (i6 H l (.lst (xs++zs)))
theorem t8:CJ X .Add CS:=by
 intro pins s σ H x y v u Q I rx ry h;obtain⟨l,b,xs,zs,rfl,rfl,hH,hB,hz,q⟩:=h;cases rx;cases ry;obtain⟨z,its,n,r,hl,e⟩:=I.lstM hH;obtain⟨z2,its2,n2,r2,hl2,e2⟩:=I.lstM hB;have hsz:its.toArray.size+its2.toArray.size<=sizeLine:=by rw [af,af];omega
 have hlong:¬ (!its.toArray.isEmpty && Builtin.List.listTooLong (its.toArray.size+its2.toArray.size))=true:=by
  rw [lY hsz,Bool.and_false];exact am
 refine DL.sS ⟨_,e,rfl⟩ ⟨_,e2,rfl⟩ ?_;refine call_meets F.slot_list_iadd ⟨_,e,rfl⟩ F.entry_list_iadd (F.args_list_iadd_2 _ _)
  (AutoSeq1.list___iadd___list_list_0 l its.toArray n b its2.toArray n2 hlong (by rw [af];omega) (by omega)) ⟨e,e2,?_⟩
 refine⟨.ref l,_,I.lset (its':=its++its2) hH e (by simp) (r.append r2) ?_,rfl,q⟩;rw [aB];omega
end L2
namespace Dp
open PySem L2
variable{K:Frag}{Jx:Hp->Prop}{f:Addr}{O O':List Addr}{H H':Hp}{X:Cx}{σ:St}{ss:SS}{pos:Pos}
theorem fY.okA{a:Expr}{ta:TEd}{fz:List Nat}{i:Nat}{x:Str}{p':Pos}(hN:X.N.Nodup)(hi:X.N[i]? = some x)(hx:pC X.env.scope x)(h:PE X a (LE X.K Jx ta))(hf:X.fn x=true\/X.env.scope.names.lookup x=some .local) :
  PS X (.AugAssign (.Name x p') .Add a pos) (LS X.K Jx (fY fz i ta)):=by
 refine (t7 (pos:=pos) hN hi hx h (ti:=CS) t8 hf).weak fun D σ H ⟨c,O,ss,R,q⟩=>?_;obtain⟨O',R⟩:=R.frz (fz:=fz);have q:(match (frz fz ss)[i]? with|some (.ow (.ls l))=>ta.run (frz fz ss) fun d=>∃ l',d = .lst l'/\l.length+l'.length<=sizeLine/\(jD X.K Jx c D).nx ((frz fz ss).set i (.own (l++l')))|_=>False):=q;split at q
 ·rename_i l el;obtain⟨p,xs,h1,h2,h3,h4,h5⟩:=R.sl.ownL i l el;refine⟨_,h1,R.le q fun d v H1 R1 e1 r ⟨l',ed,w1,w2⟩=>?_⟩;subst ed;obtain⟨b,zs,rfl,nb,hb',rs⟩:=r;have hp:=e1.sm.app p _ h3 h4;have r5:=R.sl.ups e1 h5;refine⟨p,b,xs,zs,rfl,rfl,hp,hb',by rw [r5.len,rs.len];exact w1,?_⟩;have es:σ.set i (some (.ref p))=σ:=by
   obtain⟨hlt,e2⟩:=aq.mp h1;rw [← e2];exact List.set_getElem_self hlt
  show D.nx (σ.set i (some (.ref p))) _;rw [es];exact w2 O' σ _ (R1.wr el h1 (r5.append rs))
 ·exact q.elim
end Dp
namespace Dp
open PySem L2 Ex8
variable{K:Frag}{Jx:Hp->Prop}{f:Addr}{O O':List Addr}{H H':Hp}{X:Cx}{σ:St}{ss:SS}{a b c:Expr}{ta tb tc:TEd}{pos:Pos}
def fV(y:D)(v:V):Prop:=(∃ i,y = .int i/\v = .int i)\/∃ z,y = .str z/\v = .str z
theorem fV.rp{y:D}{v:V}(h:fV y v):Rp K f O H y v:=by
 rcases h with⟨i,rfl,rfl⟩|⟨z,rfl,rfl⟩ <;> rfl
def XR(H:Hp)(d:D)(cls:Value)(dx:Option Addr):Prop:=∃ C x,cls = .ref C/\((d = .exn C x []/\dx=none)\/∃ a y v,dx=some a/\d = .exn C x [y]/\fV y v/\H a=some (.xd [(x,v)]))
def tD(E:D->Prop)(EX:XK):Hp->Prop:=fun H=>∀ d cls dx,E d->XR H d cls dx->EX cls dx H
structure SpX where
 n:Nat
 run:List D->(D->Prop)->(D->Prop)->Prop
 mono:∀{ds Q Q' E E'},(∀ d,Q d->Q' d)->(∀ d,E d->E' d)->run ds Q E->run ds Q' E'
def SpX.at(s:SpX)(E:D->Prop):SpB:=⟨s.n,fun ds Q=>s.run ds Q E,fun h q=>s.mono h (fun _ q=>q) q⟩
def tx(K:Frag)(s:SpX):Sp:=fun vs H Q EX=>vs.length=s.n/\∃ f O ds,Fl H f/\f∈O/\(∀ a∈O,Ow H a)/\(∀ l r,H f=some (.lst (.ref l::r))->l ∉ O)/\Rps K f O H ds vs /\
 s.run ds (fun d=>∀ v H',Ex f H H'->Rp K f O H' d v->Q v H') fun d=>∀ cls dx H',Ex f H H'->XR H' d cls dx->EX cls dx H'
structure DefX (P:Program)(w:World)(K:Frag)(mg:Str->Option Value)(base:Heap)(x:Str)(g:Addr)(k:Nat)(ps:List Str)(sp:Sp):Prop where
 ex:∃ fd,FnOk P w K mg base (zW P w) k g fd ps sp/\mg x=some (.ref g)/\PySem.W.keepIn K (.ref g)=true/\Binds K fd ps []
theorem dh.okX{e:Expr}{s:SpX}{t:TAd}{E:D->Prop}{EX:XK}(hJ:∀ H',Jx H'->tD E EX H')(h:PE X e (kK (tx X.K s) [] EX (LA X.K Jx t))):PE X e (LE X.K Jx (dh (s.at E) t)):=h.weak fun σ H Q ⟨f,O,ss,S,q⟩ =>
 ⟨f,O,ss,S,t.mono (fun ds q vs H1 e1 r1=>by
  have S1:=S.ex e1;refine⟨by rw [aL,r1.len];exact q.1,f,O,ds,S1.fl,S1.fO,S1.al,S1.lO,by rw [aL];exact r1,?_⟩;exact s.mono (fun d q v H' e r=>q v H' (e1.trans e) r) (fun d hE cls dx H' e xr=>hJ H' (S1.j H' e) d cls dx hE xr) q.2) q⟩
theorem v8{x:Str}{g:Addr}{j k:Nat}{ps:List Str}{sp:Sp}{EX:XK}{e:Expr}{es:List Expr}{t:TA}{p:Pos}(d:DefX X.prog X.w X.K X.mg X.base x g j ps sp)(hr:Room k X.A)(hx:kE (zW X.prog X.w) X EX)(ha:PA X (e::es) t)(hjk:j<=k)(hg:Gl X x)
  (hdb:(x == ("__debug__" : Str))=false) (he:starEach (e::es) X.env=(false,eval e X.env)::starEach es X.env) (hpl:(backTo pos (starEach es X.env)).any (·.1)=false):PE X (.Call (.Name x p) (e::es) [] pos) (kK sp [] EX t):=by
 obtain⟨fd,F,hm,hk,hb⟩:=d.ex;exact qU F (hr.mono hjk) hg hm hk hb .nil hx ha hdb he hpl
theorem CY{α:Type}{a:Addr}{v:α}:∀{l:List (Addr×α)},l.lookup a=some v->(a,v)∈l
 | [],h=>by cases h
 | (b,u)::l,h=>by
  rw [bC] at h;split at h
  ·rename_i e;cases h;rw [eq_of_beq e];exact av
  ·exact ar _ (CY h)
theorem wX{x:Str}{v:V}{e dx C:Addr}{u:Array Value}{o:HO}(he:H e=none)(ne:dx≠e):Be (i6 (i6 H e (j8 e C (some dx) u)) dx o) e=i6 H dx o:=by
 funext b;by_cases z:b=e
 ·subst z;rw [u7,iT (Ne.symm ne),he]
 ·rw [zt z];by_cases y:b=dx
  ·subst y;rw [iU,iU]
  ·rw [iT y,iT z,iT y]
def fu(E:D->Prop)(C:Addr)(x:Str)(t:TAd):TSd:=⟨fun _ ss=>t.run ss fun ds=>∃ y,ds=[y]/\((∃ i,y = .int i)\/∃ z,y = .str z)/\E (.exn C x [y]),fun _ q=>t.mono (fun _ q=>q) q⟩
def mo(X:Cx)(EX:XK):Prop:=∀(pins:List (Addr×Obj)) (σ:St) (H1:Hp) (s1:Shared) (e C:Addr) (d:Option Addr) (u:Array Value),Inv X pins σ H1 s1->H1 e=some (j8 e C d u)->u[1]? = some .none->X.s₀.heap.objs.size<=e->EX (.ref C) d (Be H1 e)->X.xe (.ref e) s1
theorem fu.ok{E:D->Prop}{EX:XK}{nm x:Str}{p cp:Pos}{j k:Nat}{C:Addr}{t:TAd}(hJ:∀ H',Jx H'->tD E EX H')(hR:mo X EX)(hc:X.calm=true)(g:XDef X.prog X.w X.K X.mg X.base nm j C x)(hr:Room k X.A)(hjk:j+1<=k)(hg:Gl X nm)(hdb:(nm == ("__debug__" : Str))=false)
  (ha:PA X [a] (LA X.K Jx t)) (he:starEach [a] X.env=[(false,eval a X.env)]):PS X (.Raise (some (.Call (.Name nm p) [a] [] cp)) none pos) (LS X.K Jx (fu E C x t)):=by
 obtain⟨f0,fd,ps,N,cd,F,hm,kp,hb,em,hi,hf,c,n⟩:=g.ex;intro pins s σ H D I ⟨c0,O,ss,R,q⟩;rw [arm_exec_Raise];refine wpAny_bind (wpAny_standAt ?_);refine xY em (I.ok.hd hc) ?_;refine wpAny_bind (wpAny_mono (Q:=fun v s₁=>∃ e d u,v = .ref e/\X.K.In s₁.heap/\s₁.heap.get? e=some { cls:=.ref C,dict:=d,data:=.fields u }/\u[1]? = some .none/\X.xe (.ref e) s₁) ?_ (fun v s1 q=>wpAny_bind (wpAny_standAt (wpAny_pure q))) fun _ _ q=>q);refine wpAny_Call_Name_kw (kj I hg hm ?_ hdb);have hA:=ha cp pins s σ H (fun vs H1=>∃ ds,SlD X.K Jx c0.f O σ H1 ss/\Rps X.K c0.f O H1 ds vs/\∃ y,ds=[y]/\((∃ i,y = .int i)\/∃ z,y = .str z)/\E (.exn C x [y])) I ⟨c0.f,O,ss,R.sl,t.mono (fun ds q vs H1 e1 r1=>⟨ds,R.sl.ex e1,r1,q⟩) q⟩;refine PySem.W.callWith_K (h₀:=X.base) I.ok.mod.kin kp (ja hA fun us s1 ⟨vs,H1,I1,r,ds,S1,rr,y,hy,fy,hE⟩=>⟨I1.kIn,?_⟩) he rfl;subst hy;obtain⟨v,vs',rfl,r1,e2⟩:=rr;have e2:vs'=[]:=e2;subst e2;have fv:fV y v:=by
  rcases fy with⟨i,rfl⟩|⟨z,rfl⟩
  ·exact .inl ⟨i,rfl,r1⟩
  ·exact .inr ⟨z,rfl,r1⟩
 refine wpAny_mono (mK (Q:=fun v' H2=>∃ e dx u,v' = .ref e/\H2=i6 (i6 H1 e (j8 e C (some dx) (fx u))) dx (.xd [(x,v)])/\H1 e=none/\dx≠e/\H1 dx=none/\s1.heap.objs.size<=e) em hi hf F (hr.mono hjk) hb .nil ui I1 r (show 1<=100 by decide) fun p0 u hp hz=>⟨p0,C,N,cd,fx u,v,rfl,iU,c,n,fun dx hd ne=>⟨rfl,p0,dx,u,rfl,by rw [qK],hp,ne,by rw [iT ne] at hd;exact hd,hz⟩⟩) (fun v' s2 h2=>?_) fun _ _ q=>q;obtain⟨v2,H2,I2,rv,e,dx,u,rfl,rfl,h1,h2,h3,h4⟩:=h2;cases rv;have he2:i6 (i6 H1 e (j8 e C (some dx) (fx u))) dx (.xd [(x,v)]) e=some (j8 e C (some dx) (fx u)):=by rw [iT (Ne.symm h2),iU]
 refine⟨e,some dx,fx u,rfl,I2.kIn,lK I2.hok he2,rfl,hR pins σ _ s2 e C (some dx) (fx u) I2 he2 rfl (az I1.sz h4) ?_⟩;rw [wX (x:=x) (v:=v) h1 h2];exact hJ _ (S1.j _ (Ex.new S1.fl h3 _)) _ _ _ hE ⟨C,x,rfl,.inr ⟨dx,y,v,rfl,rfl,fv,iU⟩⟩
def d7:TSd:=⟨fun _ _=>False,fun _ q=>q⟩
theorem d7.oks{st:List Stmt}:PSs X st (LS X.K Jx d7):=fun _ _ _ _ _ _ ⟨_,_,_,_,q⟩=>q.elim
theorem d7.ok{st:Stmt}:PS X st (LS X.K Jx d7):=fun _ _ _ _ _ _ ⟨_,_,_,_,q⟩=>q.elim
theorem Sub.no{i:Nat}{o:Option V}:Sub σ ss (σ.set i o) (ss.set i .no):=fun j l h=>by
 by_cases z:i=j
 ·subst z;rw [ay] at h;rw [if_pos rfl] at h;split at h <;> cases h
 ·rw [ax z] at h ⊢;exact⟨h,rfl⟩
def iH(tab:List (Addr×Nat×SpX))(m:Addr->Bool)(i j gi:Nat)(t:TAd):TSd:=⟨fun E ss=>∃ fa k s,ss[gi]? = some (.val (.fn fa))/\tab.lookup fa=some (k,s)/\t.run ss fun ds=>ds.length=s.n/\s.run ds E.rt fun d=>(∃ C x l,d = .exn C x l/\m C=true)/\E.nx ((ss.set i (.val d)).set j .no),
 fun h ⟨fa,k,s,h1,h2,q⟩=>⟨fa,k,s,h1,h2,t.mono (fun ds q=>⟨q.1,s.mono h.rt (fun d q=>⟨q.1,h.nx _ q.2⟩) q.2⟩) q⟩⟩
theorem iH.ok{tab:List (Addr×Nat×SpX)}{m:Addr->Bool}{st:Stmt}{i j gi k:Nat}{Nc:Addr}{t:TAd}(h:PS X st (Af X Nc i j gi (LA X.K Jx t)))(hm:∀ C,m C=true->PySem.W.exmOne X.K (.ref C) (.ref Nc)=some true)
  (ht:∀ fa j s,(fa,j,s)∈tab->j<=k/\∃ x ps,DefX X.prog X.w X.K X.mg X.base x fa j ps (tx X.K s)) (hr:Room k X.A) (lk:∀ fa v,tab.lookup fa=some v->(fa,v)∈tab):PS X st (LS X.K Jx (iH tab m i j gi t)):=h.weak fun D σ H ⟨c,O,ss,R,fa,k',s,hfa,htab,q⟩=>by
 obtain⟨hk,x,ps,fd,F,_,hkp,hb⟩:=ht fa k' s (lk _ _ htab);obtain⟨v,hv,rv⟩:=R.sl.val gi _ hfa;cases (show v=_ from rv);refine⟨fa,k',fd,ps,tx X.K s,hv,F,hb,hkp,hr.mono hk,c.f,O,ss,R.sl,t.mono (fun ds q vs H1 e1 r1=>?_) q⟩;have R1:=R.ex e1;refine⟨r1.len.trans q.1,c.f,O,ds,R1.sl.fl,R1.sl.fO,R1.sl.al,R1.sl.lO,r1,s.mono (fun d q v H' e r=>q v H' ((R1.ex e).rt r)) (fun d q cls dx H' e xr=>?_) q.2⟩;obtain⟨⟨C,z,l,rfl,hC⟩,hn⟩:=q;obtain⟨C',x',rfl,xr⟩:=xr;have eC:C'=C:=by
  rcases xr with⟨e,_⟩|⟨_,_,_,_,e,_⟩ <;> (injection e with e;exact e.symm)
 subst eC;refine⟨C',rfl,hm _ hC,fun e0 u h0=>?_⟩;have R2:=R1.ex e;have R3:=R2.ex (Ex.new R2.sl.fl h0 (j8 e0 C' dx u));have rp:Rp X.K c.f O (i6 H' e0 (j8 e0 C' dx u)) (.exn C' z l) (.ref e0):=by
  rcases xr with⟨e,rfl⟩|⟨a,y,v,rfl,e,fv,hx⟩
  ·injection e with _ e1 e2;subst e2;exact⟨e0,[],rfl,.inl ⟨rfl,u,iU⟩,rfl⟩
  ·injection e with _ e1 e2;subst e1 e2;have na:a≠e0:=iZ hx h0;exact⟨e0,[v],rfl,.inr ⟨a,u,v,rfl,iU,by rw [iT na];exact hx⟩,v,[],rfl,fv.rp,rfl⟩
 have R4:=R3.to (R3.sl.set (i:=i) rp) Sub.set;exact hn O _ _ (R4.to (R4.sl.blank (i:=j) (o:=none)) Sub.no)
end Dp
namespace Dp
open PySem L2
variable{K:Frag}{Jx:Hp->Prop}{f:Addr}{O O':List Addr}{H H':Hp}{X:Cx}{σ:St}{ss:SS}{a b:Expr}{ta tb:TEd}{pos:Pos}
inductive MK where
 | starts|part|split
def MK.nm:MK->Str
 | .starts => "startswith" | .part => "partition" | .split => "split"
def metD(k:MK)(x:Str)(e:D)(Q:D->Prop):Prop:=∃ y,e = .str y/\match k with
 | .starts=>Q (.bl (Txt.startswith x y))
 | .part=>x.length<=sizeLine/\(y.length == 0)=false/\Q (.tup [.str (Txt.partition x y).1,.str (Txt.partition x y).2.1,.str (Txt.partition x y).2.2])
 | .split=>x.length+2<=sizeLine/\(y.length == 0)=false/\Q (.lst ((Txt.split x y).map .str))
theorem metD.mono{k:MK}{x:Str}{e:D}{Q Q':D->Prop}(h:∀ d,Q d->Q' d):metD k x e Q->metD k x e Q':=fun⟨y,e2,q⟩=>⟨y,e2,by
 cases k
 ·exact h _ q
 ·exact⟨q.1,q.2.1,h _ q.2.2⟩
 ·exact⟨q.1,q.2.1,h _ q.2.2⟩⟩
def iI(k:MK)(t u:TEd):TEd:=⟨fun ss Q=>t.run ss fun d=>∃ x,d = .str x/\u.run ss fun e=>metD k x e Q,fun h q=>t.mono (fun d ⟨x,e,q⟩=>⟨x,e,u.mono (fun e q=>metD.mono h q) q⟩) q⟩
theorem Rps.str:∀(zs:List Str),Rps K f O H (zs.map D.str) (zs.map V.str)
 | []=>rfl
 | z::zs=>⟨_,_,rfl,rfl,Rps.str zs⟩
theorem iI.ok{k:MK}{ap cp:Pos}(ha:PE X a (LE X.K Jx ta))(hu:PE X b (LE X.K Jx tb))(hb:attributeBase a k.nm X.env (eval a X.env)=eval a X.env)(hl:(ap.endLine == cp.line)=true)(hs:starEach [b] X.env=[(false,eval b X.env)]):PE X (.Call (.Attribute a k.nm ap) [b] [] cp) (LE X.K Jx (iI k ta tb)):=by
 cases k
 ·refine (mN (apos:=ap) (cpos:=cp) PySem.F.plainAttrs_str PySem.F.slot_str_startswith PySem.F.type_str_startswith sF ha (iS hu pa_nil hs) hb (by rw [hs];rfl) hl hs rfl).weak fun σ H Q ⟨f,O,ss,S,q⟩=>⟨f,O,ss,S,ta.mono (fun d q v H1 e r=>?_) q⟩;have S1:=S.ex e;obtain⟨x,rfl,q⟩:=q;cases r;refine⟨rfl,f,O,ss,S1,tb.mono (fun d q v H2 e2 r2=>?_) q⟩;obtain⟨y,rfl,q⟩:=q;cases r2;exact⟨x,y,rfl,rfl,q _ H2 (e.trans e2) rfl⟩
 ·refine (mN (apos:=ap) (cpos:=cp) PySem.F.plainAttrs_str PySem.F.slot_str_partition PySem.F.type_str_partition nK ha (iS hu pa_nil hs) hb (by rw [hs];rfl) hl hs rfl).weak fun σ H Q ⟨f,O,ss,S,q⟩=>⟨f,O,ss,S,ta.mono (fun d q v H1 e r=>?_) q⟩;have S1:=S.ex e;obtain⟨x,rfl,q⟩:=q;cases r;refine⟨rfl,f,O,ss,S1,tb.mono (fun d q v H2 e2 r2=>?_) q⟩;have S2:=S1.ex e2;obtain⟨y,rfl,h1,h2,q⟩:=q;cases r2;exact⟨x,y,rfl,rfl,h1,h2,fun p hp=>q _ _ (e.trans (e2.trans (S2.new hp _))) (S2.tup hp ⟨_,_,rfl,rfl,_,_,rfl,rfl,_,_,rfl,rfl,rfl⟩)⟩
 ·refine (mN (apos:=ap) (cpos:=cp) PySem.F.plainAttrs_str PySem.F.slot_str_split PySem.F.type_str_split uE ha (iS hu pa_nil hs) hb (by rw [hs];rfl) hl hs rfl).weak fun σ H Q ⟨f,O,ss,S,q⟩=>⟨f,O,ss,S,ta.mono (fun d q v H1 e r=>?_) q⟩;have S1:=S.ex e;obtain⟨x,rfl,q⟩:=q;cases r;refine⟨rfl,f,O,ss,S1,tb.mono (fun d q v H2 e2 r2=>?_) q⟩;have S2:=S1.ex e2;obtain⟨y,rfl,h1,h2,q⟩:=q;cases r2;exact⟨x,y,rfl,rfl,h1,h2,fun p hp=>q _ _ (e.trans (e2.trans (S2.new hp _))) (S2.lst hp (Rps.str _))⟩
theorem Cn:CallR X (.builtin "isinstance") (fun xs H Q=>∃ e C N cd d u tp as b,xs=[.ref e,.ref tp]/\H tp=some (.tup (List.map V.ref as))/\H e=some (j8 e C d u)/\(∀ dx,d=some dx->∃ fs,H dx=some (.xd fs))/\Xi X.K C N cd/\PySem.W.kitAny X.K (.ref C) (as.map Value.ref)=some b/\Q (.bl b) H):=by
 intro pins s σ H xs us Q I rv h;obtain⟨e,C,N,cd,d,u,tp,as,b,rfl,ht,he,hd,k,kb,q⟩:=h;obtain⟨u1,u2,rfl,r1,r2⟩:=rv.two;cases r1;cases r2;obtain⟨its,r,p,_⟩:=I.tuple (SqT.of ht);have ei:∀{as:List Addr} {its:List Value},Vals (as.map V.ref) its->its=as.map Value.ref:=by
  intro as;induction as with
  | nil=>intro its r;cases r;rfl
  | cons a as ih =>
   intro its r;cases r with
   | cons r1 r2=>rw [ih r2,aH];cases r1;rfl
 cases ei r;obtain⟨⟨cls,dd,data,sl⟩,ho,hc,n,hdt⟩:=p;cases hc;cases hdt;have g:=lK I.hok he;refine PySem.W.kia_tup (Ex8.oS k.toXc k.ha k.hn k.htk) I.kIn ?_ ho kb (fun z=>nomatch z) fun tk=>⟨.bl b,H,I.tok tk,rfl,q⟩;cases d with
 | none=>exact⟨_,none,g,rfl,rfl,trivial⟩
 | some dx =>
  obtain⟨fs,hd⟩:=hd dx rfl;obtain⟨mA,⟨o,_,_,ho,_⟩,_⟩:=(show ObjOk X.prog X.w H s.heap dx (.xd fs) from I.hok dx _ hd);exact⟨_,some o,g,rfl,rfl,ho⟩
def xy(as:List Addr):TA:=fun _ H Q=>Q (as.map V.ref) H
theorem iO.ok{g:Addr->Option Bool}{as:List Addr}{es:List Expr}{k:Nat}{p p2:Pos}(hg:Gl X "isinstance")(hm:X.mg "isinstance" = none)(hy:PA X es (xy as))(hl:as.length<=100)(hk:∀ C k,g C=some k->∃ N cd,Xi X.K C N cd/\PySem.W.kitAny X.K (.ref C) (as.map Value.ref)=some k)
  (ha:PE X a (LE X.K Jx ta)) (hs:∀ es,starEach (a::es) X.env=(false,eval a X.env)::starEach es X.env):PE X (.Call (.Name "isinstance" p) [a,.Tuple es k p2] [] pos) (LE X.K Jx (gI g ta)):=by
 refine (i7 (p:=p) (pos:=pos) Cn hg hm i5 (iS ha (iS (pT (pos:=p2) (x1:=k) hy) pa_nil rfl) (hs _)) (by decide) (by decide) (hs _) rfl).weak fun σ H Q ⟨f,O,ss,S,q⟩=>⟨f,O,ss,S,ta.mono (fun d q v H1 e r=>?_) q⟩;have S1:=S.ex e;obtain⟨C,x,l,k,rfl,ek,q⟩:=q;obtain⟨a0,us,rfl,xo,_⟩:=r;obtain⟨N,cd,k1,k2⟩:=hk C k ek;refine⟨by rw [aj,sizeLine_eq];omega,fun p0 hp=>?_⟩;have nn:∀{b:Addr} {o:HO},H1 b=some o->i6 H1 p0 (.tup (as.map V.ref)) b=some o:=fun {b o} h=>by rw [iT (iZ h hp)];exact h
 have e2:=S1.new hp (.tup (as.map V.ref));rcases xo with⟨_,u,h1⟩|⟨dx,u,y',_,h1,h2⟩
 ·exact⟨a0,C,N,cd,none,u,p0,as,k,rfl,iU,nn h1,fun dx z=>(by cases z),k1,k2,q _ _ (e.trans e2) rfl⟩
 ·exact⟨a0,C,N,cd,some dx,u,p0,as,k,rfl,iU,nn h1,fun dx' z=>(by cases z;exact⟨_,nn h2⟩),k1,k2,q _ _ (e.trans e2) rfl⟩
end Dp
namespace L2
open PySem PySem.Spec PyProof.Rows
section
variable{prog:Program}{w:World}{A:Around}{E:Value->Shared->Prop}{s:Shared}
theorem wI{h:Heap}{a:Addr}{o:Obj}(e:h.get? a=some o):a<h.objs.size:=by
 rcases bO a h.objs.size with z|z
 ·exact z
 ·rw [Ex8.rX z] at e;cases e
theorem uU:typeLookup (Value.type "list_reverseiterator") (Str.ofString "__length_hint__")=pure (some (.builtin "list_reverseiterator.__length_hint__")):=by kernel_rfl
theorem sB:typeLookup (Value.type "list_reverseiterator") (Str.ofString "__len__")=pure none:=by kernel_rfl
theorem pw{I l:Addr}{items:Array Value}{Q:List Value->Shared->Prop}(hh:A.handled=none)(ne:l≠I)(hr:s.heap.IsRevIter I l ((items.size:Int)-1))(hl:s.heap.IsList l items)(hn:items.size<=sizeLine)
  (h:∀(s':Shared) (acc:Array Value),Moved [I] (fun a b=>b=a) s s'->ItemsOf (fun i v=>items[items.size-1-i]? = some v) acc items.size->Q acc.toList s'):wpAny (model prog w) A (collect (.ref I)) Q E s:=by
 have hI:I<s.heap.objs.size:=by
  obtain⟨o,h1,_⟩:=hr;exact (wI h1)
 have hL:l<s.heap.objs.size:=by
  obtain⟨o,h1,_⟩:=hl;exact (wI h1)
 unfold collect;refine wpAny_bind (wpAny_runValue (codeAny_builtin F.entry_proto_collect ?_));rw [Around.under_plainId F.plain_proto_collect _];unfold Builtin.«proto.collect»;dsimp only;unfold newList;refine wpAny_bind (wpAny_newObj_type ?_);refine wpAny_pure ⟨plainId_quiet F.plain_list_iadd _,codeAny_builtin F.entry_list_iadd ?_⟩;rw [Around.under_plainId F.plain_list_iadd _];have e0:∀{b:Addr} {o:Obj},s.heap.get? b=some o->(s.heap.push { cls:=.type "list",data:=.seq #[] }).get? b=some o:=fun {b o} e=>Heap.get?_push_of_some _ e;obtain⟨o,h1,h2,h3⟩:=hr;have hT:({ s with heap:=s.heap.push { cls:=.type "list",data:=.seq #[] } }:Shared).TypeIs (.ref I) "list_reverseiterator" := ⟨o,e0 h1,h2⟩;unfold Builtin.«list.__iadd__»;refine wpAny_bind (wpAny_of_eq (a:=(Value.ref s.heap.objs.size,[Value.ref I])) (by first|rfl|kernel_rfl) ?_);dsimp only;unfold Builtin.List.listExtendWith;refine wpAny_bind (wpAny_typeOf hT ?_);have hne:(s.heap.objs.size == I)=false:=by
  rw [beq_eq_false_iff_ne];exact fun z=>absurd hI (by rw [← z];exact aN _)
 rw [if_neg (show ¬ (Builtin.List.listSameRef (Value.ref s.heap.objs.size) (Value.ref I) || Value.type "list_reverseiterator" == Value.type "list" || Value.type "list_reverseiterator" == Value.type "tuple")=true by
  show ¬ (((s.heap.objs.size == I) || false || false)=true);rw [hne];decide)]
 have st:(s.heap.push { cls:=.type "list",data:=.seq #[] }).IsRevIter I l ((items.size:Int)-1):=⟨o,e0 h1,h2,h3⟩;refine wpAny_bind (wpAny_pyIter_revIter st ?_);refine wpAny_bind (wpAny_holding ?_);unfold Builtin.List.listLengthHint;refine wpAny_bind (wpAny_specialOf hT sB ?_);dsimp only;rw [if_neg (show ¬ ((none:Option Value).isSome=true) from am)];refine wpAny_bind (wpAny_specialOf hT uU ?_);dsimp only;rw [show splitId "list_reverseiterator.__length_hint__" = some ("list_reverseiterator", "__length_hint__") by kernel_rfl];dsimp only;refine wpAny_bind (wpAny_isInstance hT (b:=true) (by rw [isSubtype_type];kernel_rfl) ?_);rw [if_neg (show ¬ ((!true)=true) from am)];refine wpAny_of_eq (a:=false) ?_ ?_
 ·first|rfl|kernel_rfl
 split
 ·rename_i z;exact absurd z (by decide +kernel)
 refine wpAny_pure ⟨plainId_quiet F.plain_extend_loop _,?_⟩;refine codeAny_extend_loopS (Walks.toS (Walks.listRev (A:=A.in1) hh I l ne items)) hn s.heap.objs.size ?_ _ items.size 0 _ #[] 0 rfl (aS _) ?_ (Heap.get?_push_size _ rfl) ?_ ?_
 ·intro z;rcases ah.mp z with z|z
  ·exact absurd hI (by rw [← z];exact aN _)
  ·exact absurd hL (by rw [← ao.mp z];exact aN _)
 ·refine⟨aS _,?_,?_⟩
  ·simpa using st
  ·obtain⟨o,g1,g2⟩:=hl;exact⟨o,e0 g1,g2⟩
 ·exact⟨rfl,fun j v z=>by simp at z⟩
 ·intro s' acc c M hg it;refine wpAny_bind (wpAny_load hg (wpAny_pure (h s' acc ⟨fun b o hb e=>M.heap b o ?_ (e0 e),M.gens,M.drawn,M.os,M.toks⟩ it)));intro z;rcases ah.mp z with z|z
  ·rw [z] at e;exact absurd (wI e) (aN _)
  ·exact hb z
theorem qM:∀{zs:List Str} {us:List Value},Vals (zs.map V.str) us->∃ l:List (Str×Tok),us=strValues l/\l.map (·.1)=zs
 | [],_,.nil=>⟨[],rfl,rfl⟩
 | z::zs,_,.cons r t=>by
  obtain⟨tk,rfl⟩:=(show ∃ t,_=Value.str z t from r);obtain⟨l,rfl,e⟩:=qM t;exact⟨(z,tk)::l,rfl,by rw [aH,e]⟩
theorem sM{its:List Value}{acc:Array Value}(h:ItemsOf (fun i v=>its.toArray[its.toArray.size-1-i]? = some v) acc its.toArray.size):acc.toList=its.reverse:=by
 obtain⟨h0,h2⟩:=h;have h1:acc.size=its.length:=h0.trans af;clear h0;apply ci;intro j;rw [bX];by_cases hj:j<its.length
 ·have:=h2 j _ (cx (by omega));rw [af,List.getElem?_toArray] at this;rw [cx (by omega),bw hj,this]
 ·rw [Array.getElem?_eq_none (by omega),b0 (by rw [a5];omega)]
theorem l5(sep:Str)(t:Tok)(I l:Addr)(its:List Value):Meets (Builtin.«str.join» ⟨[.str sep t,.ref I],[]⟩) fun A R s=>A.handled=none/\l≠I/\s.heap.IsRevIter I l ((its.toArray.size:Int)-1)/\s.heap.IsList l its.toArray/\its.toArray.size<=sizeLine/\∃ L:List (Str×Tok),its.reverse=strValues L/\JoinOk sep (L.map (·.1))=true /\
  ∀ s':Shared,Moved [I] (fun a b=>b=a) s s'->∀(t':Tok) (k:Nat),R (.ok (.ret (.str (Txt.join sep (L.map (·.1))) t'))) { s' with toks:=k }:=by
 intro prog w A R s ⟨hh,ne,hr,hl,hn,L,eL,ok,h⟩;rw [join_tree_other];obtain⟨o,h1,h2,h3⟩:=id hr;refine wpAny_bind (wpAny_typeOf ⟨o,h1,h2⟩ ?_);rw [if_neg (by decide)];refine wpAny_bind (wpAny_tryCatch (wpAny_pyIter_revIter hr ?_));refine wpAny_bind (pw (A:=A.in1) hh ne hr hl hn fun s' acc M it=>?_);rw [sM it,eL];have ok':Builtin.Str.tooLong (Array.foldl (fun x1 x2=>x1+x2.length+sep.length) 0 (L.map (·.1)).toArray)=false:=by
  have:=ok;unfold JoinOk at this;simpa using this
 refine gives_joinTail sep L ok' prog w A R s' ?_;have pj:=post_join (s:=s') (sep:=sep) (Q:=fun v s'=>R (.ok (.ret v)) s') L ⟨joinFit_length ok',fun t' k=>h s' M t' k⟩;cases L with
 | nil=>exact pj
 | cons a r=>cases r <;> exact pj
end
variable{X:Cx}
def Dg(K:Frag)(sep:Str)(ta:TA):TE:=fun σ H Q=>ta σ H fun vs H1=>∃(l:Addr) (zs:List Str),vs=[.ref l]/\SqL K H1 l (zs.map V.str)/\sep.length<=16/\(zs.map (·.length)).sum+zs.length<=1048576/\Q (.str (Txt.join sep zs.reverse)) H1
theorem AM{sep:Str}{o a:Expr}{ta:TA}{ap cp p p2:Pos}(ho:PE X o (tC (.str sep)))(hg:Gl X "reversed")(hm:X.mg "reversed" = none)(ha:PA X [a] ta)(hc:X.calm=true)(hb:attributeBase o "join" X.env (eval o X.env)=eval o X.env)(hl:(ap.endLine == cp.line)=true)(hs:starEach [a] X.env=[(false,eval a X.env)]) :
  PE X (.Call (.Attribute o "join" ap) [.Call (.Name "reversed" p) [a] [] p2] [] cp) (Dg X.K sep ta):=by
 intro pins s σ H Q I h;have hs1:starEach [.Call (.Name "reversed" p) [a] [] p2] X.env=[(false,eval (.Call (.Name "reversed" p) [a] [] p2) X.env)]:=rfl;refine wpAny_Call_method_late hb (by rw [hs1];rfl) hl rfl (ja (ho pins s σ H (fun x H1=>x = .str sep/\H1=H) I ?_) fun v s1 ⟨x,H1,I1,r1,e1,e2⟩=>?_)
 ·exact⟨rfl,rfl⟩
 subst e1 e2;obtain⟨t,rfl⟩:=(show ∃ t,v=Value.str sep t from r1);refine⟨"str", "str.join",PySem.F.plainAttrs_str,PySem.F.slot_str_join,PySem.F.type_str_join,typeIs_str _ _ _,?_,?_⟩
 ·exact fun _ e=>nomatch e
 rw [hs1];refine Calls.callWith_builtin rfl (Calls.evalArgs_plain ?_);refine Calls.spliced_cons ?_;show wpAny _ _ (eval (.Call (.Name "reversed" p) [a] [] p2) X.env) _ _ s1;refine Call_ (j7 I1 hg hm boot_reversed (PyProof.Rows.callWith_type1 (ja (ha p2 pins s1 σ H1 _ I1 h) fun us s2 ⟨vs,H2,I2,r2,l,zs,e,hq,q1,q2,q3⟩=>?_) hs rfl));subst e;obtain⟨u,rfl,ru⟩:=Vals.one r2;cases ru;obtain⟨its,rv,pl,hz⟩:=I2.list hq;refine call_reversed_list pl.isList ?_;refine Calls.spliced_nil ?_;have I3:Inv X pins σ H2 { s2 with heap:=s2.heap.push (revObj l ((its.toArray.size:Int)-1)) }:=I2.kept (t':=s2.toks) fun b o e=>Heap.get?_push_of_some _ e;have F:ke X pins H2 s2.heap.objs.size:=I2.fpOk (ai _) (I2.hok.fresh (ai _));obtain⟨f0,f1,f2,f3,f4,f5⟩:=F;have ne:l≠s2.heap.objs.size:=by
  obtain⟨ob,g1,_⟩:=pl.isList;exact aD (wI g1)
 obtain⟨L,eL,mL⟩:=qM rv;have eR:its.reverse=strValues L.reverse:=by rw [eL];exact (cq ..).symm
 have mR:L.reverse.map (·.1)=zs.reverse:=by rw [cq,mL]
 have hlen:=rv.length;rw [aj] at hlen;refine call_meets F.slot_str_join (typeIs_str _ _ _) F.entry_str_join (F.args_str_join_2 _ _) (l5 sep t s2.heap.objs.size l its) ?_;refine⟨I3.ok.hd hc,ne,⟨_,Heap.get?_push_size _ rfl,rfl,rfl⟩,?_,?_,L.reverse,eR,?_,fun s' M t' k=>?_⟩
 ·obtain⟨ob,g1,g2⟩:=pl.isList;exact⟨ob,Heap.get?_push_of_some _ g1,g2⟩
 ·rw [af,sizeLine_eq];omega
 ·rw [mR];refine joinOk_of_weight ?_ q1;rw [cq,List.sum_reverse,a5];exact q2
 ·rw [mR];obtain⟨m1,m2,m3,m4,m5⟩:=M;cases s';cases m2;cases m3;cases m4;exact⟨.str _,H2,I3.turned (t':=k) (fun b o hb e=>m1 b o (by simpa using hb) e) f0 f1 f3 f4 f5,⟨t',rfl⟩,q3⟩
end L2
namespace Dp
open PySem L2
variable{Jx:Hp->Prop}{X:Cx}{a:Expr}{ta:TEd}
def fZ(sep:Str)(t:TEd):TEd:=⟨fun ss Q=>t.run ss fun d=>∃ zs:List Str,d = .lst (zs.map D.str)/\sep.length<=16/\(zs.map (·.length)).sum+zs.length<=1048576/\Q (.str (Txt.join sep zs.reverse)),fun h q=>t.mono (fun d ⟨zs,e,h1,h2,q⟩=>⟨zs,e,h1,h2,h _ q⟩) q⟩
theorem fZ.ok{sep:Str}{o:Expr}{ap cp p p2:Pos}(ho:PE X o (tC (.str sep)))(hg:Gl X "reversed")(hm:X.mg "reversed" = none)(hc:X.calm=true)(ha:PE X a (LE X.K Jx ta))(hb:attributeBase o "join" X.env (eval o X.env)=eval o X.env)(hl:(ap.endLine == cp.line)=true)(hs:starEach [a] X.env=[(false,eval a X.env)]) :
  PE X (.Call (.Attribute o "join" ap) [.Call (.Name "reversed" p) [a] [] p2] [] cp) (LE X.K Jx (fZ sep ta)):=by
 refine (AM ho hg hm (iS ha pa_nil hs) hc hb hl hs).weak fun σ H Q ⟨f,O,ss,S,q⟩=>?_;refine⟨f,O,ss,S,ta.mono (fun d q v H1 e r=>?_) q⟩;obtain⟨zs,rfl,h1,h2,q⟩:=q;obtain⟨a,xs,rfl,_,h3,r3⟩:=r;rw [Rps.strsX r3] at h3;exact⟨a,zs,rfl,SqL.of h3,h1,h2,q _ H1 e rfl⟩
end Dp
namespace Dp
open PySem L2
variable{K:Frag}{Jx:Hp->Prop}{f:Addr}{O O':List Addr}{H H':Hp}{X:Cx}{σ:St}{ss:SS}{a b:Expr}{ta tb:TEd}{pos:Pos}{c:Cs}
def kyD:D->Option jb
 | .int i=>some (.inl i)
 | .str x=>some (.inr x)
 | _=>none
theorem kyD.rp{d:D}{v:V}{k:jb}(h:kyD d=some k)(r:Rp K f O H d v):v=kV k:=by
 cases d <;> first|(cases h;done)|skip
 ·cases h;exact r
 ·cases h;exact r
def oH(kvs:List (jb×D))(k:jb)(d:D):List (jb×D):=if (kvs.any fun kv=>decide (kv.1=k))=true then kvs.map (fun kv=>if kv.1=k then (kv.1,d) else kv) else kvs++[(k,d)]
def PR(K:Frag)(f:Addr)(O:List Addr)(H:Hp):List (jb×D)->List (jb×V)->Prop
 | [],xs=>xs=[]
 | p::ps,xs=>∃ v r,xs=(p.1,v)::r/\Rp K f O H p.2 v/\PR K f O H ps r
theorem PR.of:∀{kvs:List (jb×D)} {us:List V},(kvs.map (·.1)).length=us.length->Rps K f O H (kvs.map (·.2)) us->PR K f O H kvs ((kvs.map (·.1)).zip us)
 | [],_,_,_=>rfl
 | p::ps,us,h,r=>by
  obtain⟨v,vs,rfl,r1,r2⟩:=r;exact⟨v,_,rfl,r1,PR.of (Nat.succ.inj h) r2⟩
theorem PR.to:∀{kvs:List (jb×D)} {xs:List (jb×V)},PR K f O H kvs xs->∃ us,xs=(kvs.map (·.1)).zip us/\(kvs.map (·.1)).length=us.length/\Rps K f O H (kvs.map (·.2)) us
 | [],_,h=>⟨[],h,rfl,rfl⟩
 | p::ps,_,h=>by
  obtain⟨v,r,rfl,h1,h2⟩:=h;obtain⟨us,rfl,e,q⟩:=PR.to h2;exact⟨v::us,rfl,congrArg Nat.succ e,v,us,rfl,h1,q⟩
theorem PR.any:∀{kvs:List (jb×D)} {xs:List (jb×V)} {k:jb},PR K f O H kvs xs->(xs.any fun kv=>decide (kv.1=k))=kvs.any fun kv=>decide (kv.1=k)
 | [],_,_,h=>by rw [show _=[] from h];rfl
 | p::ps,_,k,h=>by
  obtain⟨v,r,rfl,_,h2⟩:=h;rw [bn,bn,PR.any h2]
theorem PR.snoc:∀{kvs:List (jb×D)} {xs:List (jb×V)} {k:jb} {d:D} {v:V},PR K f O H kvs xs->Rp K f O H d v->PR K f O H (kvs++[(k,d)]) (xs++[(k,v)])
 | [],_,k,d,v,h,r=>by rw [show _=[] from h];exact⟨v,[],rfl,r,rfl⟩
 | p::ps,_,k,d,v,h,r=>by
  obtain⟨u,q,rfl,h1,h2⟩:=h;exact⟨u,_,rfl,h1,PR.snoc h2 r⟩
theorem PR.repl:∀{kvs:List (jb×D)} {xs:List (jb×V)} {k:jb} {d:D} {v:V},PR K f O H kvs xs->Rp K f O H d v->PR K f O H (kvs.map fun kv=>if kv.1=k then (kv.1,d) else kv) (xs.map fun kv=>if kv.1=k then (kv.1,v) else kv)
 | [],_,k,d,v,h,r=>by rw [show _=[] from h];rfl
 | p::ps,_,k,d,v,h,r=>by
  obtain⟨u,q,rfl,h1,h2⟩:=h;rw [aH,aH];by_cases e:p.1=k
  ·rw [if_pos e,if_pos (show (p.1,u).1=k from e)];exact⟨v,_,rfl,r,PR.repl h2 r⟩
  ·rw [if_neg e,if_neg (show ¬ (p.1,u).1=k from e)];exact⟨u,_,rfl,h1,PR.repl h2 r⟩
theorem PR.put{kvs:List (jb×D)}{xs:List (jb×V)}{k:jb}{d:D}{v:V}(h:PR K f O H kvs xs)(r:Rp K f O H d v):PR K f O H (oH kvs k d) (kM xs k v):=by
 unfold oH kM;rw [h.any];split
 ·exact h.repl r
 ·exact h.snoc r
theorem PR.len:∀{kvs:List (jb×D)} {xs:List (jb×V)},PR K f O H kvs xs->xs.length=kvs.length
 | [],_,h=>by rw [show _=[] from h];rfl
 | p::ps,_,h=>by
  obtain⟨u,q,rfl,_,h2⟩:=h;rw [aJ,aJ,PR.len h2]
def f6(i:Nat):TSd:=⟨fun E ss=>E.nx (ss.set i (.odc [])),fun h q=>h.nx _ q⟩
theorem f6.ok{i:Nat}{x:Str}{p' p2:Pos}(hN:X.N.Nodup)(hi:X.N[i]? = some x)(hx:pC X.env.scope x)(hs:swapsWith (.Dict [] [] p2) (some (.Name x p')) pos.line X.env=pure false)(hf:X.fn x=true\/X.env.scope.names.lookup x=some .local) :
  PS X (.Assign [.Name x p'] (.Dict [] [] p2) pos) (LS X.K Jx (f6 i)):=(jJ hN hi hx uf hs hf).weak fun D σ H ⟨c,O,ss,R,q⟩=>fun p hp =>
 q _ _ _ (R.mkOw (o:=.dc []) (R.sl.new hp _) hp ⟨[],iU,rfl,rfl⟩)
def et(i:Nat)(k e:TEd):TSd:=⟨fun E ss=>match ss[i]? with|some (.ow (.dc kvs))=>e.run ss fun d=>k.run ss fun y=>∃ k',kyD y=some k'/\kvs.length<sizeLine/\E.nx (ss.set i (.odc (oH kvs k' d)))|_=>False,fun {E E' ss} h q=>by
 revert q;split
 ·exact e.mono fun d=>k.mono fun y ⟨k',h1,h2,q⟩=>⟨k',h1,h2,h.nx _ q⟩
 ·exact id⟩
theorem et.ok{i:Nat}{o:Expr}{pos':Pos}(hu:X.A.units+1<cLine)(ho:PE X o (jO i))(hk:PE X a (LE X.K Jx ta))(he:PE X b (LE X.K Jx tb))(hs:swapsWith b (some (.Subscript o a pos')) pos.line X.env=pure false) :
  PS X (.Assign [.Subscript o a pos'] b pos) (LS X.K Jx (et i ta tb)):=(vY hu ho hk he hs).weak fun D σ H ⟨c,O,ss,R,q⟩=>by
 have q:(match ss[i]? with|some (.ow (.dc kvs))=>tb.run ss fun d=>ta.run ss fun y=>∃ k',kyD y=some k'/\kvs.length<sizeLine/\(jD X.K Jx c D).nx (ss.set i (.odc (oH kvs k' d)))|_=>False):=q;split at q
 ·rename_i kvs el;obtain⟨p,us,h1,h2,h3,h4,h5,h6⟩:=R.sl.ownC el;refine R.le q fun d v H1 R1 e1 r w=>?_;refine⟨_,h1,R1.le w fun y u H2 R2 e2 ry w=>?_⟩;obtain⟨k',ek,hl,w⟩:=w;cases ek':kyD.rp ek ry;have e12:=e1.trans e2;have hp:=e12.sm.app p _ h3 h4;have pr:=PR.of h5 (R.sl.ups e12 h6);refine⟨p,_,rfl,.inl ⟨_,k',hp,rfl,by rw [pr.len];exact hl,rfl⟩,w O σ _ (R2.wrO el h1 fun kp=>?_)⟩;have pr':PR X.K c.f O (i6 H2 p (.dK (kM ((kvs.map (·.1)).zip us) k' v))) (oH kvs k' d) (kM ((kvs.map (·.1)).zip us) k' v):=by
   have r2:=R1.sl.up e2 r;exact PR.put (PR.of h5 ((R.sl.ups e12 h6).kp kp R2.sl.al)) (r2.kp kp R2.sl.al)
  obtain⟨us',eq,l',q'⟩:=pr'.to;exact⟨us',by rw [iU,eq],l',q'⟩
 ·exact q.elim
def frA(ss:SS):SS:=ss.map fun s=>match s with | .ow o=>.val o.toD|s=>s
theorem SlD.frA(R:SlD K Jx f O σ H ss):SlD K Jx f [f] σ H (frA ss):=by
 have hs:∀ a∈[f],a∈O:=fun a h=>by rw [ao.mp h];exact R.fO
 refine⟨R.fl,ao.mpr rfl,fun a h=>?_,fun l r h z=>?_,?_,fun i d h=>?_,fun i o h=>?_,R.j⟩
 ·rw [ao.mp h];exact .inl R.fl.lst
 ·have z:=ao.mp z;subst z;exact R.lO _ _ h R.fO
 ·unfold Dp.frA;rw [aj];exact R.len
 ·unfold Dp.frA at h;rw [aA] at h;cases e:ss[i]? with
  | none=>rw [e] at h;cases h
  | some s =>
   rw [e] at h;cases s with
   | no=>cases h
   | val d0 =>
    cases h;obtain⟨v,h1,h2⟩:=R.val i _ e;exact⟨v,h1,h2.less hs⟩
   | ow o =>
    cases h;obtain⟨a,h1,h2,h3,h4⟩:=R.own i _ e;exact⟨_,h1,OR.rp (h4.map (fun _ q=>q) fun ds vs r=>r.less hs) fun z=>h3 (ao.mp z)⟩
 ·unfold Dp.frA at h;rw [aA] at h;cases e:ss[i]? with
  | none=>rw [e] at h;cases h
  | some s =>
   rw [e] at h;cases s <;> cases h
def eF(t:TEd):TEd:=⟨fun ss Q=>t.run (frA ss) fun d=>d.lf=true/\Q d,fun h q=>t.mono (fun d q=>⟨q.1,h _ q.2⟩) q⟩
theorem eF.ok(h:PE X a (LE X.K Jx ta)):PE X a (LE X.K Jx (eF ta)):=h.weak fun σ H Q ⟨f,O,ss,R,q⟩=>⟨f,[f],_,R.frA,ta.mono (fun d q v H' e r=>q.2 v H' e (r.any q.1)) q⟩
def g9(t:TTd):TTd:=⟨fun ss Q=>t.run (frA ss) Q,fun h q=>t.mono h q⟩
theorem g9.ok{tA:TTd}(h:PT X a (LT X.K Jx tA)):PT X a (LT X.K Jx (g9 tA)):=h.weak fun σ H Q ⟨f,O,ss,R,q⟩=>⟨f,[f],_,R.frA,q⟩
end Dp
namespace Dp
open PySem L2
variable{K:Frag}{Jx:Hp->Prop}{f:Addr}{O O':List Addr}{H H':Hp}{X:Cx}{σ:St}{ss:SS}{a b:Expr}{ta tb:TEd}{pos:Pos}{c:Cs}
def pairs:List jb->List D->List D
 | k::ks,d::l=>.tup [AW k,d]::pairs ks l
 | _,_=>[]
theorem wJ{k:jb}:Rp K f O H (AW k) (kV k):=by cases k <;> rfl
theorem mO{H1 H2:Hp}:∀{ks:List jb} {l:List D} {us:List V} {as:List Addr},ks.length=us.length->Rps K f O H2 l us->as.length=us.length->(∀(j:Nat) (b:Addr) (kv:jb×V),as[j]? = some b->(ks.zip us)[j]? = some kv->H2 b=some (.tup [kV kv.1,kv.2]))->Rps K f O H2 (pairs ks l) (as.map V.ref)
 | [],l,us,as,e,r,ea,h=>by
  have:us=[]:=bo.mp e.symm;subst this;have:as=[]:=bo.mp ea;subst this;cases l <;> rfl
 | k::ks,l,[],as,e,r,ea,h=>by cases e
 | k::ks,[],u::us,as,e,r,ea,h=>by cases r
 | k::ks,d::l,u::us,[],e,r,ea,h=>by cases ea
 | k::ks,d::l,u::us,p::as,e,r,ea,h=>by
  obtain⟨v,vs,e1,r1,r2⟩:=r;cases e1;have h0:=h 0 p (k,u) rfl rfl;refine⟨_,_,rfl,⟨p,_,rfl,SqT.of h0,_,_,rfl,wJ,_,[],rfl,r1,rfl⟩,?_⟩;exact mO (H1:=H1) (Nat.succ.inj e) r2 (Nat.succ.inj ea) fun j b kv e1 e2=>h (j+1) b kv (by simpa using e1) (by simpa using e2)
def eZ(t:TEd):TEd:=⟨fun ss Q=>t.run ss fun d=>match d with | .dct ks l=>Q (.lst (pairs ks l))|_=>False,fun {ss Q Q'} h q=>t.mono (fun d q=>by
 cases d <;> first|exact q|exact h _ q) q⟩
theorem eZ.ok{p ap cp:Pos}(hg:Gl X "list")(hm:X.mg "list" = none)(hh:X.A.handled=none)(ha:PE X a (LE X.K Jx ta))(hb:attributeBase a "items" X.env (eval a X.env)=eval a X.env)(hl:(ap.endLine == cp.line)=true):PE X (.Call (.Name "list" p) [.Call (.Attribute a "items" ap) [] [] cp] [] pos) (LE X.K Jx (eZ ta)) :=
 (ki (p:=p) (pos:=pos) (qA hh) hg hm jW (iS (v7 ha hb hl) pa_nil rfl) (by decide) (by decide) rfl rfl).weak fun σ H Q ⟨f,O,ss,S,q⟩=>⟨f,O,ss,S,ta.mono (fun d q v H1 e r=>by
  cases d <;> first|exact False.elim q|skip
  rename_i ks l;obtain⟨p,us,rfl,n,h1,h2,h3⟩:=r;refine⟨p,_,rfl,h1,fun rr hr=>?_⟩;have S1:=S.ex e;have np:p≠rr:=fun z=>by rw [z,hr] at h1;cases h1
  have e2:=S1.new hr (mD rr p);refine⟨rr,p,ks.zip us,rfl,iU,by rw [iT np];exact h1,fun z as H2 L=>?_⟩;have app:∀ b o,i6 H1 rr (mD rr p) b=some o->H2 b=some o:=fun b o eb=>by
   rw [L.old b fun y=>by rw [L.new b y] at eb;cases eb];exact eb
  have F1:=(S1.ex e2).fl;have e3:Ex f (i6 H1 rr (mD rr p)) H2:=⟨⟨fun b o _ eb=>app b o eb,fun l r el=>⟨r,app _ _ el⟩⟩,F1.same fun b o eb=>app b o eb⟩;have S3:=(S1.ex e2).ex e3;have hz:H1 z=none:=by
   have:=L.new z av;by_cases y:z=rr
   ·rw [y];exact hr
   ·rw [iT y] at this;exact this
  refine q _ H2 (e.trans (e2.trans e3)) ⟨z,as.map V.ref,rfl,S1.nO hz,L.lst,?_⟩;have el:as.length=us.length:=by rw [L.len,List.length_zip,h2,Nat.min_self]
  exact mO (H1:=H1) h2 (S1.ups (e2.trans e3) h3) el L.tup) q⟩
def gy(i:Nat):TSd:=⟨fun E ss=>match ss[i]? with|some (.ow (.dc _))=>E.nx (ss.set i (.odc []))|_=>False,fun {E E' ss} h q=>by
 revert q;split
 ·exact fun q=>h.nx _ q
 ·exact id⟩
theorem gy.ok{i:Nat}{x:Expr}{ap cp:Pos}(hx:PE X x (jO i))(hb:attributeBase x "clear" X.env (eval x X.env)=eval x X.env)(hl:(ap.endLine == cp.line)=true)(hw:swapsWith (.Call (.Attribute x "clear" ap) [] [] cp) none pos.line X.env=pure false) :
  PS X (.Expr (.Call (.Attribute x "clear" ap) [] [] cp) pos) (LS X.K Jx (gy i)):=by
 refine (kh (pos:=pos) (v9 (apos:=ap) (cpos:=cp) hx hb hl) hw).weak fun D σ H ⟨c,O,ss,R,q⟩=>?_;have q:(match ss[i]? with|some (.ow (.dc _))=>(jD X.K Jx c D).nx (ss.set i (.odc []))|_=>False):=q;split at q
 ·rename_i kvs el;obtain⟨p,us,h1,h2,h3,h4,h5,h6⟩:=R.sl.ownC el;exact⟨_,h1,p,_,rfl,h4,q O σ _ (R.wrO (l':=OB.dc []) el h1 fun kp=>⟨[],iU,rfl,rfl⟩)⟩
 ·exact q.elim
def CM(K:Frag)(Jx:Hp->Prop)(t:TEd):TE:=fun σ H Q=>∃ f O ss,SlD K Jx f O σ H ss/\t.run ss fun d=>∃ kvs,d=(OB.dc kvs).toD/\∀ p H',Ex f H H'->H p=none->OR K f (p::O) H' p (.dc kvs)->Q (.ref p) H'
def xq(K:Frag)(n:Nat)(sp:BH):Sp:=fun vs H Q _=>vs.length=n/\∃ f O ds,Fl H f/\f∈O/\(∀ a∈O,Ow H a)/\(∀ l r,H f=some (.lst (.ref l::r))->l ∉ O)/\Rps K f O H ds vs/\sp ds fun d=>∃ kvs,d=(OB.dc kvs).toD/\∀ p H',Ex f H H'->H p=none->OR K f (p::O) H' p (.dc kvs)->Q (.ref p) H'
theorem dh.okC{e:Expr}{s:SpB}{t:TAd}(h:PE X e (kK (xq X.K s.n s.run) [] E0 (LA X.K Jx t))):PE X e (CM X.K Jx (dh s t)):=h.weak fun σ H Q ⟨f,O,ss,S,q⟩ =>
 ⟨f,O,ss,S,t.mono (fun ds q vs H1 e1 r1=>by
  have S1:=S.ex e1;refine⟨by rw [aL,r1.len];exact q.1,f,O,ds,S1.fl,S1.fO,S1.al,S1.lO,by rw [aL];exact r1,?_⟩;exact s.mono (fun d ⟨l,el,q⟩=>⟨l,el,fun p H' e hp r=>q p H' (e1.trans e) (e1.low (fun z=>S1.nO hp (z ▸ S1.fO)) hp) r⟩) q.2) q⟩
def il(i:Nat)(e:TEd):TSd:=⟨fun E ss=>e.run ss fun d=>∃ kvs,d=(OB.dc kvs).toD/\E.nx (ss.set i (.odc kvs)),fun h q=>e.mono (fun d ⟨kvs,el,q⟩=>⟨kvs,el,h.nx _ q⟩) q⟩
theorem il.ok{i:Nat}{x:Str}{p':Pos}(hN:X.N.Nodup)(hi:X.N[i]? = some x)(hx:pC X.env.scope x)(h:PE X a (CM X.K Jx ta))(hs:swapsWith a (some (.Name x p')) pos.line X.env=pure false)(hf:X.fn x=true\/X.env.scope.names.lookup x=some .local) :
  PS X (.Assign [.Name x p'] a pos) (LS X.K Jx (il i ta)):=(jJ hN hi hx h hs hf).weak fun D σ H ⟨c,O,ss,R,q⟩=>by
 refine⟨c.f,O,_,R.sl,ta.mono (fun d ⟨kvs,el,q⟩=>⟨kvs,el,fun p H' e hp r=>?_⟩) q⟩;exact q _ _ H' (R.mkOw e hp r)
end Dp
namespace Dp
open PySem L2
variable{K:Frag}{Jx:Hp->Prop}{X:Cx}{T:Tc}{pos p p2:Pos}{a b e:Expr}{E:FE}{F:FT}
theorem _root_.L2.PTs.weak{es:List Expr}{t t':TT}(h:PTs X es t)(w:∀ σ H Q,t' σ H Q->t σ H Q):PTs X es t':=fun pins s σ H Q I q=>h pins s σ H Q I (w σ H Q q)
end Dp
namespace Dp
open PySem L2
variable{P:Program}{w:World}{K:Frag}{Jx:Hp->Prop}{mg:Str->Option Value}{base:Heap}
def kX(K:Frag):Sp:=fun vs H Q _=>∃(a:Addr) (ns:List Int),vs=[.ref a]/\SqL K H a (ns.map V.int)/\ns.length<=63/\∀ f H',Same H H'->Fl H' f->H f=none->Q (.ref f) H'
def nz:Sp:=fun vs H Q _=>∃(f:Addr) (m:Int),vs=[.ref f,.int m]/\Fl H f/\0<m/\Lt2 9000 m/\∀ d H',0<=d->d<m->Fl H' f->Sm f H H'->Q (.int d) H'
def oE(K:Frag):Sp:=fun vs H Q _=>∃(a:Addr) (ns:List Int),vs=[.ref a]/\SqL K H a (ns.map V.int)/\ns.length<=63/\∀ H',Q (.bl true) H'
def df:SpB:=.of 2 (α:=Int) (fun m ds=>ds=[.fl,.int m]/\0<m/\Lt2 9000 m) (fun m d=>∃ i,d = .int i/\0<=i/\i<m)
theorem sg{k:Nat}{ps:List Str}(g:Def P w K mg base "_law_pick" k ps nz):Def P w K mg base "_law_pick" k ps (ms K df.n df.run):=by
 obtain⟨f,fd,F,r⟩:=g.ex;refine⟨f,fd,F.imp (fun vs H Q E h=>?_),r⟩;obtain⟨hn,f,O,ds,fl,fO,al,lO,rp,m,⟨rfl,m0,m1⟩,q⟩:=h;obtain⟨v,v',rfl,e1,e2⟩:=Rps.two rp;cases (show v=_ from e1);cases (show v'=_ from e2);exact⟨f,m,rfl,fl,m0,m1,fun d H' d0 d1 fl' sm=>q (.int d) ⟨d,rfl,d0,d1⟩ _ H' ⟨sm,fl'⟩ rfl⟩
end Dp
namespace Dp
open PySem L2
def fD(t b:Int):D:=.tup [.int t,.int b]
theorem pP:2<=sizeLine:=by rw [sizeLine_eq];decide
theorem tP:1<=sizeLine:=by rw [sizeLine_eq];decide
theorem vL:0<=sizeLine:=aS _
theorem jy{n:Nat}(h:n<=16777216):n<=sizeLine:=by rw [sizeLine_eq];exact h
theorem oX{p:Prop}[Decidable p]{A B:Prop}(h1:p->A)(h2:¬ p->B):if decide p=true then A else B:=by
 by_cases c:p
 ·rw [if_pos (decide_eq_true c)];exact h1 c
 ·rw [if_neg (by simpa using c)];exact h2 c
theorem Dx{p:Prop}[Decidable p]{A B:Prop}(h1:¬ p->A)(h2:p->B):if (!decide p)=true then A else B:=by
 by_cases c:p
 ·rw [if_neg (by simpa using c)];exact h2 c
 ·rw [if_pos (by simpa using c)];exact h1 c
theorem rq{l:List D}{n:Nat}{d:D}{Q:D->Prop}(h:l[n]? = some d)(q:Q d):itD l (n:Int) Q:=by
 unfold itD;rw [kn h];exact q
def f7:TSd:=(dSq (dY (dg (dl .NotEq (c9 1) (dC (.int 0))))
 (ii [] 0 1 (c9 1) (dm .Mod (c9 0) (c9 1))))
 (dq [] (dB bAbs bAbs.mono (c8 (c9 0) de))))
def eJ:SpB:=.of 2 (α:=Int×Int) (fun x ds=>ds=[.int x.1,.int x.2]) (fun x d=>d = .int (Fr.cp x.1 x.2))
theorem zI(x:Int):(if x<0 then -x else x)=((x.natAbs:Nat):Int):=by split <;> omega
theorem fk:Does 2 f7 eJ:=by
 rintro ds Q hn ⟨⟨a,b⟩,rfl,q⟩;refine⟨fun s=>∃ a' b':Int,s=[.val (.int a'),.val (.int b')]/\Int.gcd a' b'=Int.gcd a b,fun s=>match s with|[_,.val (.int b')]=>b'.natAbs|_=>0,⟨a,b,rfl,rfl⟩,?_⟩;rintro _ ⟨a',b',rfl,hg⟩;refine Dx (p:=b'=0) (fun c=>?_) (fun c=>?_)
 ·exact⟨c,⟨b',a'.fmod b',rfl,by rw [Fr.uY];exact hg⟩,Fr.wV a' b' c⟩
 ·subst c;refine q _ ?_;show D.int (if a'<0 then -a' else a') = .int (Fr.cp a b);unfold Fr.cp;rw [zI,← hg,Int.gcd_zero_right]
def fw:TSd:=(dSq (du [] (gNm 2) (dh eJ (c8 (c9 0) (c8 (c9 1) de))))
 (dSq (dIf [] (dg (dl .Lt (c9 1) (dC (.int 0))))
 (du [] (gNm 2) (dm .Sub (dC (.int 0)) (c9 2)))
 dj)
 (dq [] (dJ (c8 (dm .FloorDiv (c9 0) (c9 2)) (c8 (dm .FloorDiv (c9 1) (c9 2)) de))))))
def dN:SpB:=.of 2 (α:=Int×Int) (fun x ds=>ds=[.int x.1,.int x.2]/\x.2≠0/\Lt2 9000000 x.2) (fun x d=>d=fD (Fr.top x.1 x.2) (Fr.xV x.1 x.2))
theorem eS:Does 3 fw dN:=by
 rintro ds Q hn ⟨⟨a,b⟩,⟨rfl,h0,hl⟩,q⟩;refine⟨rfl,(a,b),rfl,?_⟩;rintro _ rfl;have fin:∀ p:Int,p=Fr.part a b->nv a p/\nv b p/\2<=sizeLine/\Q (.tup [.int (a.fdiv p),.int (b.fdiv p)]):=by
  rintro p rfl;have c:∀ x,nv x (Fr.part a b):=fun x=>⟨Fr.wa h0,9000000,hl.le (Fr.wb h0),by decide⟩;exact⟨c _,c _,pP,q _ rfl⟩
 refine oX (p:=b<0) (fun c=>?_) (fun c=>?_)
 ·exact fin _ (by unfold Fr.part;rw [if_pos c];simp)
 ·exact fin _ (by unfold Fr.part;rw [if_neg c])
end Dp
namespace Dp
open PySem L2
def dS:SpB:=.of 2 (α:=Int) (fun m ds=>ds=[.fl,.int m]/\0<=m/\Lt2 8000 m) (fun m d=>∃ z,d = .int z /\ -m<=z/\z<=m)
def f8:TSd:=(dq [] (dm .Sub (dh df (c8 (c9 0) (c8 (dm .Add (dm .Mult (dC (.int 2)) (c9 1)) (dC (.int 1))) de))) (c9 1)))
theorem fm:Does 2 f8 dS:=by
 rintro ds Q hn ⟨m,⟨rfl,m0,m1⟩,q⟩;have two:Lt2 2 2:=by decide
 have lm:Lt2 9000 (2*m+1):=((two.mul m1).add ((show Lt2 1 1 by decide).mono (m:=2+8000) (by omega))).mono (by omega);refine⟨⟨_,_,two,m1,by omega⟩,rfl,2*m+1,⟨rfl,by omega,lm⟩,?_⟩;rintro _ ⟨i,rfl,i0,i1⟩;exact q _ ⟨_,rfl,by omega,by omega⟩
theorem my{m:Int}{n:Nat}(h:m.natAbs<1000)(hn:10<=n:=by decide):Lt2 n m:=by
 unfold Lt2;exact ak (Nat.lt_trans h (show 1000<2^10 by decide)) (aG (by decide) hn)
theorem ua{a b c e:Int}{i:Int}(h0:0<=i)(h1:i<4){Q:D->Prop}(qa:Q (.int a))(qb:Q (.int b))(qc:Q (.int c))(qe:Q (.int e)):itD [.int a,.int b,.int c,.int e] i Q:=by
 rcases (by omega:i=0\/i=1\/i=2\/i=3) with rfl|rfl|rfl|rfl
 ·exact qa
 ·exact qb
 ·exact qc
 ·exact qe
end Dp
namespace Tx
open PySem
abbrev L(z:Str):List Nat:=z.cps.toList
theorem mV{a:Str}:a.length=(L a).length:=bL.symm
theorem vN{z:Str}{k:Nat}(h:k<=z.length):L (StrLaws.sliceText z (some (k:Int)) none)=(L z).drop k:=by
 rw [mV] at h;rw [StrLaws.sliceText_from ⟨by omega,by show (k:Int)<=((L z).length:Int);omega⟩];show List.take _ (List.drop ((k:Int)).toNat (L z))=_;rw [aI];refine List.take_of_length_le ?_;rw [bR];show _<=((((L z).length:Nat):Int)-(k:Int)).toNat;omega
theorem Ar{z:Str}{k:Nat}(h:k<=z.length):L (StrLaws.sliceText z none (some (k:Int)))=(L z).take k:=by
 rw [mV] at h;rw [StrLaws.sliceText_to ⟨by omega,by show (k:Int)<=((L z).length:Int);omega⟩];show List.take ((k:Int)-0).toNat (List.drop 0 (L z))=_;rw [Int.sub_zero,aI,cu]
end Tx
namespace Dp
open PySem L2
theorem AY(a b:Str)(l:List Str):Txt.join "" (a::b::l)=a ++ "" ++ Txt.join "" (b::l):=by
 unfold Txt.join;rw [StrLaws.glued_eq_join,StrLaws.glued_eq_join];exact PyProof.Rows.join_cons_cons "" a b l
theorem uL:∀ zs:List Str,(Txt.join "" zs).length=(zs.map (·.length)).sum
 | []=>rfl
 | [a]=>by
  unfold Txt.join;rw [StrLaws.glued_eq_join];show a.length=_;simp
 | a::b::l=>by
  rw [AY,Str.length_append,Str.length_append,uL (b::l),aH,List.sum_cons];rfl
def abc:Str := "abcdefghijklmnopqrstuvwxyz"
theorem vw{i:Nat}(h:i<26):abc.cps.toList[i]? = some (97+i):=by
 have:∀ i<26,abc.cps.toList[i]? = some (97+i):=by decide +kernel
 exact this i h
theorem rP:abc.length=26:=by decide +kernel
theorem km{ds:List D}{s0:SS}{g:TGd}{e:TEd}{Q:D->Prop}(W:Nat->D->Prop)(hl:ds.length<=16777216)(h:∀ i d,ds[i]? = some d->g.run d s0 fun s1=>e.run s1 (W i))(q:∀ ys:List D,ys.length=ds.length->(∀ i y,ys[i]? = some y->W i y)->Q (.lst ys)):compD ds s0 g gv e Q:=by
 refine⟨jy hl,fun i ys=>ys.length=i/\∀ j y,ys[j]? = some y->W j y,⟨rfl,fun j y h=>by cases h⟩,?_,?_⟩
 ·rintro i d ys hd _ ⟨l,hw⟩;refine g.mono (fun s1 w=>?_) (h i d hd);refine e.mono (fun y w=>?_) w;refine⟨by rw [aB,l];rfl,fun j z hz=>?_⟩;rcases bO j ys.length with c|c
  ·rw [ba c] at hz;exact hw j z hz
  ·rw [bz c] at hz;obtain⟨z1,z2⟩:=aq.mp hz;have e0:j-ys.length=0:=by simp at z1;omega
   have ej:j=i:=by omega
   subst ej;simp [e0] at hz;rw [← hz];exact w
 ·rintro ys _ ⟨l,hw⟩;exact q ys l hw
theorem tG{α:Type}{f:α->D}{l:List α}{ys:List D}(h:ys.length=l.length)(w:∀(i:Nat) (y:D),ys[i]? = some y->∀ a,l[i]? = some a->y=f a):ys=l.map f:=by
 apply ci;intro i;rw [aA];cases e:ys[i]? with
 | none =>
  rw [List.getElem?_eq_none_iff] at e;rw [b0 (by omega)];rfl
 | some y =>
  have hi:=(aq.mp e).1;rw [aw (show i<l.length by omega)];exact congrArg some (w i y e _ (aw (by omega)))
def eA:SpB:=.of 1 (α:=Unit) (fun _ ds=>ds=[.fl]) (fun _ d=>∃ z,d = .str z/\1<=z.length/\z.length<=7)
def eT:TSd:=(dq [] (dm .Add (c9 2) (dm .Mult (dC (.str "z")) (dB bInt bInt.mono (c8 (dl .In (c9 2) (dJ (c8 (dC (.str "x")) (c8 (dC (.str "of")) (c8 (dC (.str "again")) de))))) de)))))
def gb:TSd:=dSq (dIf [] (dg (dl .Eq (dh df (c8 (c9 0) (c8 (dC (.int 6)) de))) (dC (.int 0))))
 (du [] (gNm 2) (dIx (dO (c8 (dC (.str "ofx")) (c8 (dC (.str "xof")) (c8 (dC (.str "o")) (c8 (dC (.str "f")) (c8 (dC (.str "agai")) (c8 (dSl (dC (.str "again")) (fh (dC (.int 1))) dNo) (c8 (dC (.str "xx")) (c8 (dC (.str "aga")) de))))))))) (dh df (c8 (c9 0) (c8 (dC (.int 8)) de)))))
 dj)
 eT
def ge:TSd:=dSq (du [] (gNm 2) (ft "" (eh (fH (dm .Add (dC (.int 1)) (dh df (c8 (c9 0) (c8 (dC (.int 6)) de))))) [3] (gNm 3) gv (dIx (c9 1) (dh df (c8 (c9 0) (c8 (dC (.int 26)) de)))))))
 gb
def gJ:TSd:=dSq (du [] (gNm 1) (dC (.str "abcdefghijklmnopqrstuvwxyz")))
 ge
theorem AS{z:Str}{s1 o:SD}{Q:D->Prop}(h1:1<=z.length)(h2:z.length<=6)(q:∀ d,(∃ z,d = .str z/\1<=z.length/\z.length<=7)->Q d):eT.run (jA Q) [.val .fl,s1,.val (.str z),o]:=by
 refine⟨jy (n:=3) (by decide),.inr (.inl ⟨z,["x", "of", "again"],rfl,.inr rfl,?_⟩)⟩;have fin:∀ n:Int,(n=0\/n=1)->oMul (.str "z") (.int n) fun d=>oAdd (.str z) d Q:=fun n hn=>by
  refine⟨by decide,by omega,by omega,?_⟩;have l:(Txt.mul "z" n).length<=1:=by rcases hn with rfl|rfl <;> decide +kernel
  exact⟨jy (by omega),q _ ⟨_,rfl,by rw [Str.length_append];omega,by rw [Str.length_append];omega⟩⟩
 exact fin _ (by rw [if_neg am];split;exact .inr rfl;exact .inl rfl)
theorem fJ:Does 4 gJ eA:=by
 rintro ds Q hn ⟨_,rfl,q⟩;dsimp only at q;refine⟨rfl,6,⟨rfl,by decide,my (by decide)⟩,?_⟩;rintro _ ⟨n,rfl,n0,n1⟩;refine⟨by omega,by omega,?_⟩;refine km (fun _ y=>∃ c,y = .str ⟨#[c]⟩) ?_ (fun i d hd=>?_) fun ys l hw=>?_
 ·rw [jp];omega
 ·obtain⟨hi,rfl⟩:=j3 hd;refine⟨rfl,26,⟨rfl,by decide,my (by decide)⟩,?_⟩;rintro _ ⟨k,rfl,k0,k1⟩;obtain⟨k,rfl⟩:=aM k0;exact⟨jy (by rw [show ("abcdefghijklmnopqrstuvwxyz" : Str).length=26 from rP];omega),_,kn (vw (by omega)),_,rfl⟩
 ·rw [jp] at l;obtain⟨zs,rfl,hz⟩:∃ zs:List Str,ys=zs.map D.str/\∀ z∈zs,z.length=1:=by
   clear l;induction ys with
   | nil=>exact⟨[],rfl,fun z h=>by cases h⟩
   | cons y ys ih =>
    obtain⟨c,rfl⟩:=hw 0 y rfl;obtain⟨zs,rfl,hz⟩:=ih fun i y h=>hw (i+1) y (by simpa using h);exact⟨⟨#[c]⟩::zs,rfl,fun z h=>by
     rcases ah.mp h with rfl|h
     ·rfl
     ·exact hz z h⟩
  have sm:(zs.map (·.length)).sum=zs.length:=by
   clear hw l;induction zs with
   | nil=>rfl
   | cons z zs ih =>
    rw [aH,List.sum_cons,hz z av,ih fun z h=>hz z (ar _ h),aJ];omega
  rw [aj] at l;refine⟨zs,rfl,by decide,by rw [sm];omega,?_⟩;have jl:=uL zs;rw [sm] at jl;refine⟨rfl,6,⟨rfl,by decide,my (by decide)⟩,?_⟩;rintro _ ⟨i,rfl,i0,i1⟩;refine oX (p:=i=0) (fun c=>?_) (fun c=>?_)
  ·refine⟨jy (n:=5) (by decide),jy (n:=8) (by decide),rfl,8,⟨rfl,by decide,my (by decide)⟩,?_⟩;rintro _ ⟨j,rfl,j0,j1⟩;rcases (by omega:j=0\/j=1\/j=2\/j=3\/j=4\/j=5\/j=6\/j=7) with rfl|rfl|rfl|rfl|rfl|rfl|rfl|rfl <;> exact AS (by decide +kernel) (by decide +kernel) q
  ·exact AS (by omega) (by omega) q
end Dp
namespace Dp
open PySem L2
theorem uS{α:Type}[DecidableEq α]{f:Nat->α}:∀(s:Nat) (l:List α),(∀ i<s,∀ j<s,f i=f j->i=j)->(∀ j<s,f j∈l)->s<=l.length
 | 0,_,_,_=>aS _
 | s+1,l,hi,hm=>by
  have h1:=hm s (bp s);have:=uS s (l.erase (f s)) (fun i a j b e=>hi i (by omega) j (by omega) e) fun j hj=>(List.mem_erase_of_ne fun e=>by
   have:=hi j (by omega) s (by omega) e;omega).mpr (hm j (by omega))
  rw [List.length_erase_of_mem h1] at this;have:0<l.length:=List.length_pos_of_mem h1;omega
def lC(j:Nat):Str:=Txt.mul ⟨#[97+j]⟩ 2
theorem n9:∀ j<26,(lC j).length=2/\lC j ∉ (["x", "of", "again"]:List Str)/\∀ i<26,lC i=lC j->i=j:=by decide +kernel
theorem vv{i:Int}{Q:D->Prop}(h0:0<=i)(q:∀ k:Nat,k<26->i.fmod 26=k->Q (.str ⟨#[97+k]⟩)):oIx (.str "abcdefghijklmnopqrstuvwxyz") (.int (i.fmod 26)) Q:=by
 obtain⟨k,hk⟩:=aM (show 0<=i.fmod 26 by rw [bB _ (by decide)];exact bN _ (by decide));have l:k<26:=by
  have:=bE i (show (0:Int)<26 by decide);rw [bB _ (by decide)] at hk;omega
 rw [hk];exact⟨jy (by rw [show ("abcdefghijklmnopqrstuvwxyz" : Str).length=26 from rP];omega),_,kn (vw l),q k l hk⟩
abbrev wS(m:Nat)(nr:Bool)(core:Str)(a tn:Int)(ns:List Str)(o8 o9 o10:SD):SS:=[.val .fl,.val (.int m),.val (.str "abcdefghijklmnopqrstuvwxyz"),.val (.bl nr),.val (.str core),.val (.int a),.val (.int tn),.own (ns.map .str),o8,o9,o10]
def vq(s:SS):Nat:=match s[10]? with|some (SD.val (D.int k))=>7-k.toNat|_=>0
def gX:TSd:=(dY (g9 (eQ (dg (dl .In (c9 9) (c9 7))) (dg (dl .In (c9 9) (dJ (c8 (dC (.str "x")) (c8 (dC (.str "of")) (c8 (dC (.str "again")) de))))))))
 (dSq (du [] (gNm 9) (dm .Mult (dIx (c9 2) (dm .Mod (c9 10) (dC (.int 26)))) (dm .Add (dC (.int 2)) (dm .FloorDiv (c9 10) (dC (.int 26))))))
 (du [] (gNm 10) (dm .Add (c9 10) (dC (.int 1))))))
theorem AO{m:Nat}{nr:Bool}{core z:Str}{a tn:Int}{ns:List Str}{o8:SD}{E:EndsD}(h1:1<=z.length)(h2:z.length<=7)(hl:ns.length<=5)(q:∀(z:Str) (o:SD),1<=z.length->z.length<=7->z ∉ ns->E.nx (wS m nr core a tn ns o8 (.val (.str z)) o)):gX.run E (wS m nr core a tn ns o8 (.val (.str z)) (.val (.int 0))):=by
 refine⟨fun s=>∃(z:Str) (k:Nat),s=wS m nr core a tn ns o8 (.val (.str z)) (.val (.int k))/\1<=z.length/\z.length<=7/\(∀ j,j+1<k->lC j∈ns)/\(0<k->z=lC (k-1))/\k<=6,vq,⟨z,0,rfl,h1,h2,fun j h=>by omega,fun h=>by omega,by omega⟩,?_⟩;rintro _ ⟨z,k,rfl,h1,h2,h3,h4,h5⟩;have step:(z∈ns\/z∈(["x", "of", "again"]:List Str))->(dSq (du [] (gNm 9) (dm .Mult (dIx (c9 2) (dm .Mod (c9 10) (dC (.int 26)))) (dm .Add (dC (.int 2)) (dm .FloorDiv (c9 10) (dC (.int 26))))))
 (du [] (gNm 10) (dm .Add (c9 10) (dC (.int 1))))).run ⟨fun s'=>(∃(z:Str) (k:Nat),s'=wS m nr core a tn ns o8 (.val (.str z)) (.val (.int k))/\1<=z.length/\z.length<=7/\(∀ j,j+1<k->lC j∈ns)/\(0<k->z=lC (k-1))/\k<=6)/\vq s'<vq (wS m nr core a tn ns o8 (.val (.str z)) (.val (.int k))),E.rt,E.nx,fun s'=>(∃(z:Str) (k:Nat),s'=wS m nr core a tn ns o8 (.val (.str z)) (.val (.int k))/\1<=z.length/\z.length<=7/\(∀ j,j+1<k->lC j∈ns)/\(0<k->z=lC (k-1))/\k<=6)/\vq s'<vq (wS m nr core a tn ns o8 (.val (.str z)) (.val (.int k)))⟩ (wS m nr core a tn ns o8 (.val (.str z)) (.val (.int k))):=fun hz=>by
  have all:∀ j<k,lC j∈ns:=fun j hj=>by
   by_cases c:j+1<k
   ·exact h3 j c
   ·have ej:j=k-1:=by omega
    subst ej;rw [← h4 (by omega)];rcases hz with hz|hz
    ·exact hz
    ·rw [h4 (by omega)] at hz;exact absurd hz (n9 (k-1) (by omega)).2.1
  have k5:k<=5:=az (uS k ns (fun i a j b e=>(n9 j (by omega)).2.2 i (by omega) e) all) hl;have ef:(k:Int).fdiv 26=0:=by rw [bP _ (by decide)];omega
  refine⟨by decide,vv (by omega) fun i hi ei=>?_⟩;have:i=k:=by
   rw [bB _ (by decide),Int.emod_eq_of_lt (by omega) (by omega)] at ei;omega
  subst this;refine⟨⟨by decide,10,my (by decide),by decide⟩,?_⟩;rw [ef];have ck:=n9 i (by omega);refine⟨by show 1<=16;decide,by decide,by decide,?_⟩;refine⟨⟨lC i,i+1,rfl,by rw [ck.1];decide,by rw [ck.1];decide,fun j hj=>all j (by omega),fun _=>rfl,by omega⟩,?_⟩;show 7-((i:Int)+1).toNat<7-(i:Int).toNat;omega
 refine .inr (.inl ⟨z,ns,rfl,.inl rfl,oX (p:=z∈ns) (fun c=>?_) (fun c=>?_)⟩)
 ·exact step (.inl c)
 ·refine⟨jy (n:=3) (by decide),.inr (.inl ⟨z,["x", "of", "again"],rfl,.inr rfl,?_⟩)⟩;refine oX (p:=z∈(["x", "of", "again"]:List Str)) (fun c2=>?_) (fun c2=>?_)
  ·exact step (.inr c2)
  ·exact q z _ h1 h2 c
def eU:SpB:=.of 2 (α:=Nat) (fun m ds=>ds=[.fl,.int m]/\1<=m/\m<=6) (fun m d=>∃ ns:List Str,d = .lst (ns.map .str)/\ns.length=m/\ns.Nodup/\∀ z∈ns,1<=z.length/\z.length<=7)
def eK:TSd:=(dq [7] (c9 7))
def eM:TSd:=dSq (eE [] (fH (c9 1)) (gNm 8)
 (dSq (du [] (gNm 9) (dh eA (c8 (c9 0) de)))
 (dSq (dIf [] (fj (c9 3))
 (du [] (gNm 9) (dm .Add (dm .Add (dSl (c9 4) dNo (fh (c9 5))) (dIx (c9 2) (dm .Mod (dm .Add (c9 6) (c9 8)) (dC (.int 26))))) (dSl (c9 4) (fh (dm .Add (c9 5) (dC (.int 1)))) dNo)))
 dj)
 (dSq (du [] (gNm 10) (dC (.int 0)))
 (dSq (dY (g9 (eQ (dg (dl .In (c9 9) (c9 7))) (dg (dl .In (c9 9) (dJ (c8 (dC (.str "x")) (c8 (dC (.str "of")) (c8 (dC (.str "again")) de))))))))
 (dSq (du [] (gNm 9) (dm .Mult (dIx (c9 2) (dm .Mod (c9 10) (dC (.int 26)))) (dm .Add (dC (.int 2)) (dm .FloorDiv (c9 10) (dC (.int 26))))))
 (du [] (gNm 10) (dm .Add (c9 10) (dC (.int 1))))))
 (gH [] 7 (c9 9)))))))
 eK
def fK:TSd:=dSq (gG [] 7 (dO de))
 eM
def fL:TSd:=dSq (du [] (gNm 6) (dh df (c8 (c9 0) (c8 (dC (.int 26)) de))))
 fK
def fM:TSd:=dSq (du [] (gNm 5) (dh df (c8 (c9 0) (c8 (dB bLen bLen.mono (c8 (c9 4) de)) de))))
 fL
def fN:TSd:=dSq (du [] (gNm 4) (dh eA (c8 (c9 0) de)))
 fM
def fP:TSd:=dSq (du [] (gNm 3) (dl .Eq (dh df (c8 (c9 0) (c8 (dC (.int 2)) de))) (dC (.int 0))))
 fN
def gz:TSd:=dSq (du [] (gNm 2) (dC (.str "abcdefghijklmnopqrstuvwxyz")))
 fP
def gY:TSd:=dSq (du [] (gNm 10) (dC (.int 0))) (dSq gX (gH [] 7 (c9 9)))
theorem AR{m:Nat}{nr:Bool}{core z:Str}{a tn:Int}{ns:List Str}{o8 o10:SD}{E:EndsD}(h1:1<=z.length)(h2:z.length<=7)(hl:ns.length<=5)(q:∀(z:Str) (o o':SD),1<=z.length->z.length<=7->z ∉ ns->E.nx (wS m nr core a tn (ns++[z]) o8 o' o)):gY.run E (wS m nr core a tn ns o8 (.val (.str z)) o10):=by
 refine AO h1 h2 hl fun z o k1 k2 k3=>?_;refine⟨jy (by rw [aj];omega),?_⟩;have:=q z o (.val (.str z)) k1 k2 k3;unfold wS at this;rw [aR] at this;exact this
theorem AQ{m:Nat}{nr:Bool}{core:Str}{a tn:Int}{Q:D->Prop}(m6:m<=6)(c1:core.length<=7)(a0:0<=a)(a1:a<core.length)(t0:0<=tn)(q:∀ d,(∃ ns:List Str,d = .lst (ns.map .str)/\ns.length=m/\ns.Nodup/\∀ z∈ns,1<=z.length/\z.length<=7)->Q d):eM.run (jA Q) (wS m nr core a tn [] .no .no .no):=by
 refine⟨by omega,by omega,fun j s=>∃(ns:List Str) (o8 o9 o10:SD),s=wS m nr core a tn ns o8 o9 o10/\ns.length=j/\ns.Nodup/\∀ z∈ns,1<=z.length/\z.length<=7,⟨[],_,_,_,rfl,rfl,List.nodup_nil,fun z h=>by cases h⟩,?_,?_⟩
 ·rintro j d _ hd ⟨ns,o8,o9,o10,rfl,lj,nd,wz⟩;obtain⟨hj,rfl⟩:=j3 hd;have fin:∀(z:Str) (o8:SD),1<=z.length->z.length<=7->gY.run ⟨fun s=>∃(ns:List Str) (o8 o9 o10:SD),s=wS m nr core a tn ns o8 o9 o10/\ns.length=j+1/\ns.Nodup/\∀ z∈ns,1<=z.length/\z.length<=7,(jA Q).rt,eK.run (jA Q),fun s=>∃(ns:List Str) (o8 o9 o10:SD),s=wS m nr core a tn ns o8 o9 o10/\ns.length=j+1/\ns.Nodup/\∀ z∈ns,1<=z.length/\z.length<=7⟩ (wS m nr core a tn ns o8 (.val (.str z)) o10):=fun z o8 h1 h2=>by
   refine AR h1 h2 (by omega) fun z o o' k1 k2 k3=>⟨ns++[z],_,_,_,rfl,by rw [aB,lj];rfl,?_,fun y hy=>?_⟩
   ·rw [List.nodup_append];exact⟨nd,bt.mpr ⟨au,List.nodup_nil⟩,fun a ha b hb e=>k3 (by rw [← ao.mp hb,← e];exact ha)⟩
   ·rcases bd.mp hy with hy|hy
    ·exact wz y hy
    ·rw [ao.mp hy];exact⟨k1,k2⟩
  refine⟨rfl,(),rfl,?_⟩;rintro _ ⟨z,rfl,z1,z2⟩;cases nr with
  | false=>exact fin z _ z1 z2
  | true =>
   obtain⟨k,rfl⟩:=aM a0;have hk:k<core.length:=by omega
   have s1:(StrLaws.sliceText core none (some (k:Int))).length=k:=by rw [Tx.mV,Tx.Ar (by omega),a7,← Tx.mV];omega
   have s2:(StrLaws.sliceText core (some ((k:Int)+1)) none).length=core.length-(k+1):=by rw [Tx.mV,show ((k:Int)+1)=((k+1:Nat):Int) from rfl,Tx.vN (by omega),bR,← Tx.mV]
   refine⟨jy (by omega),by decide,vv (by omega) fun i hi _=>?_⟩;have e1:(⟨#[97+i]⟩:Str).length=1:=rfl;refine⟨jy (by rw [s1,e1];omega),jy (by omega),jy (by rw [Str.length_append,s1,s2,e1];omega),?_⟩;exact fin _ _ (by rw [Str.length_append,Str.length_append,s1,s2,e1];omega) (by rw [Str.length_append,Str.length_append,s1,s2,e1];omega)
 ·rintro _ ⟨ns,o8,o9,o10,rfl,lj,nd,wz⟩;rw [jp] at lj;exact q _ ⟨ns,rfl,by omega,nd,wz⟩
theorem fA:Does 11 gz eU:=by
 rintro ds Q hn ⟨m,⟨rfl,m1,m6⟩,q⟩;dsimp only at q;refine⟨rfl,2,⟨rfl,by decide,my (by decide)⟩,?_⟩;rintro _ ⟨n,rfl,n0,n1⟩;refine⟨rfl,(),rfl,?_⟩;rintro _ ⟨core,rfl,c1,c2⟩;refine⟨jy (by omega),rfl,(core.length:Int),⟨rfl,by omega,my (by omega)⟩,?_⟩;rintro _ ⟨a,rfl,a0,a1⟩;refine⟨rfl,26,⟨rfl,by decide,my (by decide)⟩,?_⟩;rintro _ ⟨tn,rfl,t0,t1⟩;exact⟨vL,AQ m6 c2 a0 a1 t0 q⟩
end Dp
namespace Dp
open PySem L2
inductive O2 where
 | plus|minus|times|of
def O2.s:O2->Str
 | .plus => "plus" | .minus => "minus" | .times => "times" | .of => "of"
inductive Tm where
 | x|num (a b:Int)|name (n:Str)|one (g:Bool) (t:Tm) (k:Nat)|two (o:O2) (a b:Tm)
def oZ(g:Bool):Str:=match g with|true => "again" | false => "power"
def Tm.d:Tm->D
 | .x=>.tup [.str "x"]
 | .num a b=>.tup [.str "number",fD a b]
 | .name n=>.tup [.str "name",.str n]
 | .one g t k=>.tup [.str (oZ g),t.d,.int (k:Nat)]
 | .two o a b=>.tup [.str o.s,a.d,b.d]
def Tm.ht:Tm->Nat
 | .one _ t _=>t.ht+1
 | .two _ a b=>max a.ht b.ht+1
 | _=>1
def Tm.inn:Tm->List Tm
 | .one _ t _=>[t]
 | .two _ a b=>[a,b]
 | _=>[]
def Tm.parts:Tm->List Tm
 | .one g t k=>.one g t k::t.parts
 | .two o a b=>.two o a b::(a.parts++b.parts)
 | .x=>[.x]
 | .num a b=>[.num a b]
 | .name n=>[.name n]
def Tm.Ok(ns:List Str):Tm->Prop
 | .x=>True
 | .num a b=>0<b/\Int.gcd a b=1/\a.natAbs<=999/\b<=999
 | .name n=>n∈ns
 | .one _ t k=>t.Ok ns/\k<=6
 | .two _ a b=>a.Ok ns/\b.Ok ns
theorem Tm.ht_pos(t:Tm):1<=t.ht:=by cases t <;> simp [Tm.ht]
theorem Tm.inn_ht{t u:Tm}(h:u∈t.inn):u.ht<t.ht:=by
 cases t <;> simp only [Tm.inn,ah,au,or_false] at h
 ·subst h;exact bp _
 ·rcases h with rfl|rfl
  ·exact aZ (aW _ _)
  ·exact aZ (aT _ _)
theorem Tm.inn_ok{t u:Tm}{ns:List Str}(o:t.Ok ns)(h:u∈t.inn):u.Ok ns:=by
 cases t <;> simp only [Tm.inn,ah,au,or_false] at h
 ·subst h;exact o.1
 ·rcases h with rfl|rfl
  ·exact o.1
  ·exact o.2
theorem Tm.inn_len(t:Tm):t.inn.length<=2:=by cases t <;> simp [Tm.inn]
theorem Tm.parts_eq(t:Tm):t.parts=t::t.inn.flatMap Tm.parts:=by
 cases t <;> simp [Tm.parts,Tm.inn]
theorem Tm.parts_len:∀ t:Tm,t.parts.length<2^t.ht
 | .x=>by decide
 | .num _ _=>by simp [Tm.parts,Tm.ht]
 | .name _=>by simp [Tm.parts,Tm.ht]
 | .one _ t _=>by
  have:=t.parts_len;simp only [Tm.parts,Tm.ht,aJ,aU];omega
 | .two _ a b=>by
  have h1:=ak a.parts_len (aG (by decide:0<2) (aW a.ht b.ht));have h2:=ak b.parts_len (aG (by decide:0<2) (aT a.ht b.ht));simp only [Tm.parts,Tm.ht,aJ,aB,aU];omega
theorem yJ{a b:D}{i:Int}(h0:0<=i)(h1:i<2){Q:D->Prop}(qa:Q a)(qb:Q b):itD [a,b] i Q:=by
 rcases (by omega:i=0\/i=1) with rfl|rfl
 ·exact qa
 ·exact qb
def dW:SpB:=.of 2 (α:=List Str) (fun ns ds=>ds=[.fl,.lst (ns.map .str)]/\ns.length<=6) (fun ns d=>∃ t:Tm,d=t.d/\t.Ok ns/\t.ht=1)
def eV:TSd:=(dq [] (dJ (c8 (dC (.str "number")) (c8 (dh dN (c8 (c9 3) (c8 (dm .Add (dC (.int 1)) (dh df (c8 (c9 0) (c8 (dIx (dO (c8 (dC (.int 1)) (c8 (dC (.int 1)) (c8 (dC (.int 9)) (c8 (dC (.int 999)) de))))) (dh df (c8 (c9 0) (c8 (dC (.int 4)) de)))) de)))) de))) de))))
def eW:TSd:=dSq (du [] (gNm 3) (dh dS (c8 (c9 0) (c8 (dIx (dO (c8 (dC (.int 3)) (c8 (dC (.int 3)) (c8 (dC (.int 20)) (c8 (dC (.int 999)) de))))) (dh df (c8 (c9 0) (c8 (dC (.int 4)) de)))) de))))
 eV
def gg:TSd:=dSq (dIf [] (eg (dg (dl .Lt (c9 2) (dC (.int 4)))) (dg (dl .Gt (dB bLen bLen.mono (c8 (c9 1) de)) (dC (.int 0)))))
 (dq [] (dJ (c8 (dC (.str "name")) (c8 (dIx (c9 1) (dh df (c8 (c9 0) (c8 (dB bLen bLen.mono (c8 (c9 1) de)) de)))) de))))
 dj)
 eW
def gh:TSd:=dSq (dIf [] (dg (dl .Lt (c9 2) (dC (.int 2))))
 (dq [] (dJ (c8 (dC (.str "x")) de)))
 dj)
 gg
def gK:TSd:=dSq (du [] (gNm 2) (dh df (c8 (c9 0) (c8 (dC (.int 6)) de))))
 gh
theorem AV{ns:List Str}{o1 o2 o3:SD}{Q:D->Prop}(q:∀ d,(∃ t:Tm,d=t.d/\t.Ok ns/\t.ht=1)->Q d):eW.run (jA Q) [.val .fl,o1,o2,o3]:=by
 refine⟨jy (n:=4) (by decide),rfl,4,⟨rfl,by decide,my (by decide)⟩,?_⟩;rintro _ ⟨j,rfl,j0,j1⟩;have go:∀ m:Int,3<=m->m<=999->[D.fl,.int m].length=dS.n/\dS.run [.fl,.int m] (fun d=>(gNm 3).run d (frz [] [.val .fl,o1,o2,o3]) ((jA Q).to (eV.run (jA Q))).nx):=fun m m1 m2=>by
  refine⟨rfl,m,⟨rfl,by omega,my (by omega)⟩,?_⟩;rintro _ ⟨z,rfl,z0,z1⟩;refine⟨jy (n:=4) (by decide),rfl,4,⟨rfl,by decide,my (by decide)⟩,?_⟩;rintro _ ⟨i,rfl,i0,i1⟩;have key:∀ u:Int,1<=u->u<=999->([D.fl,.int u].length=df.n/\df.run [.fl,.int u] fun d=>oAdd (.int 1) d fun d=>[D.int z,d].length=dN.n/\dN.run [.int z,d] fun d=>[D.str "number",d].length<=sizeLine/\Q (.tup [.str "number",d])):=fun u u1 u2=>by
   refine⟨rfl,u,⟨rfl,by omega,my (by omega)⟩,?_⟩;rintro _ ⟨e,rfl,e0,e1⟩;refine⟨rfl,(z,1+e),⟨rfl,by show 1+e≠0;omega,my (by omega)⟩,?_⟩;rintro _ rfl;obtain⟨l1,l2,l3⟩:=Fr.low (t:=z) (b:=1+e) (by omega);obtain⟨k1,k2⟩:=Fr.ye (t:=z) (b:=1+e) (by omega);have q1:(Fr.top z (1+e)).natAbs<=999:=by omega
   have q2:Fr.xV z (1+e)<=999:=by omega
   exact⟨jy (n:=2) (by decide),q _ ⟨.num _ _,rfl,⟨l1,l3,q1,q2⟩,rfl⟩⟩
  exact ua i0 i1 (key 1 (by decide) (by decide)) (key 1 (by decide) (by decide)) (key 9 (by decide) (by decide)) (key 999 (by decide) (by decide))
 exact ua j0 j1 (go 3 (by decide) (by decide)) (go 3 (by decide) (by decide)) (go 20 (by decide) (by decide)) (go 999 (by decide) (by decide))
theorem fQ:Does 4 gK dW:=by
 rintro ds Q hn ⟨ns,⟨rfl,l6⟩,q⟩;dsimp only at q;refine⟨rfl,6,⟨rfl,by decide,my (by decide)⟩,?_⟩;rintro _ ⟨f,rfl,f0,f1⟩;refine oX (p:=f<2) (fun _=>⟨jy (n:=1) (by decide),q _ ⟨.x,rfl,trivial,rfl⟩⟩) (fun _=>?_);refine oX (p:=f<4) (fun _=>?_) (fun _=>AV q);refine oX (p:=0<(((ns.map D.str).length:Nat):Int)) (fun c=>?_) (fun _=>AV q);rw [aj] at c;refine⟨rfl,_,⟨rfl,by rw [aj];exact c,my (by rw [aj];omega)⟩,?_⟩;rintro _ ⟨i,rfl,i0,i1⟩;obtain⟨i,rfl⟩:=aM i0;rw [aj] at i1;have hi:i<ns.length:=by omega
 exact rq (d:=.str ns[i]) (by rw [aA,aw hi];rfl) ⟨jy (n:=2) (by decide),q _ ⟨.name ns[i],rfl,c6 hi,rfl⟩⟩
def dE(m:Nat):SpB:=.of 4 (α:=List Str×Int×Nat) (fun (ns,r,dn) ds=>ds=[.fl,.lst (ns.map .str),.int r,.int (dn:Nat)]/\ns.length<=6/\r<=12/\dn<m) (fun (ns,_,dn) d=>∃ t:Tm,d=t.d/\t.Ok ns/\t.ht<=dn+1)
def io(m:Nat):TSd:=(dIf [] (dg (dl .Lt (c9 4) (dC (.int 3))))
 (dq [] (dJ (c8 (dIx (dO (c8 (dC (.str "power")) (c8 (dC (.str "again")) de))) (dm .Sub (c9 4) (dC (.int 1)))) (c8 (dh (dE m) (c8 (c9 0) (c8 (c9 1) (c8 (dm .Sub (c9 2) (dC (.int 1))) (c8 (dm .Sub (c9 3) (dC (.int 1))) de))))) (c8 (dh df (c8 (c9 0) (c8 (dC (.int 7)) de))) de)))))
 dj)
def gL(m:Nat):TSd:=(dSq (du [] (gNm 5) (dm .Add (dC (.int 1)) (dh df (c8 (c9 0) (c8 (dm .Sub (c9 2) (dC (.int 2))) de)))))
 (dSq (du [] (gNm 6) (dh (dE m) (c8 (c9 0) (c8 (c9 1) (c8 (c9 5) (c8 (dm .Sub (c9 3) (dC (.int 1))) de))))))
 (dSq (du [] (gNm 7) (dh (dE m) (c8 (c9 0) (c8 (c9 1) (c8 (dm .Sub (dm .Sub (c9 2) (dC (.int 1))) (c9 5)) (c8 (dm .Sub (c9 3) (dC (.int 1))) de))))))
 (dq [] (dJ (c8 (dIx (dO (c8 (dC (.str "plus")) (c8 (dC (.str "minus")) (c8 (dC (.str "times")) (c8 (dC (.str "times")) (c8 (dC (.str "of")) (c8 (dC (.str "of")) de))))))) (dm .Sub (c9 4) (dC (.int 3)))) (c8 (c9 6) (c8 (c9 7) de))))))))
def gM(m:Nat):TSd:=dSq (du [] (gNm 4) (dh df (c8 (c9 0) (c8 (dC (.int 9)) de)))) (dSq (dIf [] (eQ (dg (dl .Lt (c9 2) (dC (.int 2)))) (eQ (dg (dl .Eq (c9 3) (dC (.int 0)))) (eQ (dg (dl .Lt (c9 4) (dC (.int 1)))) (eg (dg (dl .Lt (c9 2) (dC (.int 3)))) (dg (dl .Gt (c9 4) (dC (.int 2))))))))
 (dq [] (dh dW (c8 (c9 0) (c8 (c9 1) de))))
 dj) (dSq (io m) (gL m)))
theorem Ci{m dn:Nat}{ns:List Str}{r f:Int}{o1 o2 o3:SD}{Q:D->Prop}(l6:ns.length<=6)(hm:dn<m)(r3:3<=r)(r12:r<=12)(f3:3<=f)(f9:f<9)(q:∀ d,(∃ t:Tm,d=t.d/\t.Ok ns/\t.ht<=dn+1+1)->Q d):(gL m).run (jA Q) [.val .fl,.val (.lst (ns.map .str)),.val (.int r),.val (.int ((dn+1:Nat):Int)),.val (.int f),o1,o2,o3]:=by
 have e1:(((dn+1:Nat):Int)-1)=dn:=by omega
 refine⟨rfl,r-2,⟨rfl,by omega,my (by omega)⟩,?_⟩;rintro _ ⟨i,rfl,i0,i1⟩;refine⟨rfl,(ns,1+i,dn),⟨by rw [← e1],l6,by show 1+i<=12;omega,hm⟩,?_⟩;rintro _ ⟨a,rfl,a1,a2⟩;refine⟨rfl,(ns,r-1-(1+i),dn),⟨by rw [← e1],l6,by show r-1-(1+i)<=12;omega,hm⟩,?_⟩;rintro _ ⟨b,rfl,b1,b2⟩;refine⟨jy (n:=6) (by decide),?_⟩;have key:∀ o:O2,[D.str o.s,a.d,b.d].length<=sizeLine/\Q (.tup [.str o.s,a.d,b.d]):=fun o=>⟨jy (n:=3) (by decide),q _ ⟨.two o a b,rfl,⟨a1,b1⟩,Nat.succ_le_succ (cU.mpr ⟨a2,b2⟩)⟩⟩;rcases (by omega:f=3\/f=4\/f=5\/f=6\/f=7\/f=8) with rfl|rfl|rfl|rfl|rfl|rfl
 ·exact key .plus
 ·exact key .minus
 ·exact key .times
 ·exact key .times
 ·exact key .of
 ·exact key .of
theorem AT{m dn:Nat}{ns:List Str}{r f:Int}{o1 o2 o3:SD}{Q:D->Prop}(l6:ns.length<=6)(hm:dn<m)(r2:2<=r)(r12:r<=12)(f1:1<=f)(f9:f<9)(hr:¬ (r<3/\2<f))(q:∀ d,(∃ t:Tm,d=t.d/\t.Ok ns/\t.ht<=dn+1+1)->Q d):(dSq (io m) (gL m)).run (jA Q) [.val .fl,.val (.lst (ns.map .str)),.val (.int r),.val (.int ((dn+1:Nat):Int)),.val (.int f),o1,o2,o3]:=by
 have e1:(((dn+1:Nat):Int)-1)=dn:=by omega
 refine oX (p:=f<3) (fun c=>?_) (fun c=>Ci l6 hm (by omega) r12 (by omega) f9 q);have key:∀ g:Bool,[D.fl,.lst (ns.map .str),.int (r-1),.int (((dn+1:Nat):Int)-1)].length=(dE m).n/\(dE m).run [D.fl,.lst (ns.map .str),.int (r-1),.int (((dn+1:Nat):Int)-1)] fun y=>[D.fl,.int 7].length=df.n/\df.run [.fl,.int 7] fun z=>[D.str (oZ g),y,z].length<=sizeLine/\Q (.tup [.str (oZ g),y,z]):=fun g=>by
  refine⟨rfl,(ns,r-1,dn),⟨by rw [← e1],l6,by show r-1<=12;omega,hm⟩,?_⟩;rintro _ ⟨t,rfl,t1,t2⟩;refine⟨rfl,7,⟨rfl,by decide,my (by decide)⟩,?_⟩;rintro _ ⟨k,rfl,k0,k1⟩;obtain⟨k,rfl⟩:=aM k0;exact⟨jy (n:=3) (by decide),q _ ⟨.one g t k,rfl,⟨t1,by omega⟩,Nat.succ_le_succ t2⟩⟩
 refine⟨jy (n:=2) (by decide),?_⟩;rcases (by omega:f=1\/f=2) with rfl|rfl
 ·exact key false
 ·exact key true
theorem dL(m:Nat):Does 8 (gM m) (dE (m+1)):=by
 rintro ds Q hn ⟨⟨ns,r,dn⟩,⟨rfl,l6,r12,hm⟩,q⟩;dsimp only at q r12 hm;refine⟨rfl,9,⟨rfl,by decide,my (by decide)⟩,?_⟩;rintro _ ⟨f,rfl,f0,f1⟩;have leaf:dW.run [.fl,.lst (ns.map .str)] Q:=⟨ns,⟨rfl,l6⟩,fun d ⟨t,e,h1,h2⟩=>q d ⟨t,e,h1,by omega⟩⟩;refine oX (p:=r<2) (fun _=>⟨rfl,leaf⟩) (fun c1=>?_);refine oX (p:=(dn:Int)=0) (fun _=>⟨rfl,leaf⟩) (fun c2=>?_);refine oX (p:=f<1) (fun _=>⟨rfl,leaf⟩) (fun c3=>?_);obtain⟨dn,rfl⟩:∃ e,dn=e+1:=⟨dn-1,by omega⟩;refine oX (p:=r<3) (fun c4=>?_) (fun c4=>AT l6 (by omega) (by omega) r12 (by omega) f1 (fun h=>c4 h.1) q);exact oX (p:=2<f) (fun _=>⟨rfl,leaf⟩) (fun c5=>AT l6 (by omega) (by omega) r12 (by omega) f1 (fun h=>c5 h.2) q)
end Dp
namespace Dp
open PySem L2
theorem sN{l:List D}(K:List D->Prop)(h:K l):itemsD (.lst l) K:=h
def vD(ns:List Str)(f:Str->D):D:=.dct (ns.map Sum.inr) (ns.map f)
theorem qv{ns:List Str}{f:Str->D}{s:Str}{Q:D->Prop}(h:s∈ns)(q:Q (f s)):oIx (vD ns f) (.str s) Q:=by
 obtain⟨j,hj,e⟩:=bM h;refine⟨j,f s,?_,?_,q⟩
 ·rw [aA,aw hj,e];rfl
 ·rw [aA,aw hj,e];rfl
def dP:SpB:=.of 1 (α:=Tm) (fun t ds=>ds=[t.d]) (fun t d=>d = .lst (t.inn.map Tm.d))
def gA:TSd:=(dSq (dIf [] (dg (dl .In (dIx (c9 0) (dC (.int 0))) (dJ (c8 (dC (.str "x")) (c8 (dC (.str "number")) (c8 (dC (.str "name")) de))))))
 (dq [] (dO de))
 dj)
 (dSq (dIf [] (dg (dl .In (dIx (c9 0) (dC (.int 0))) (dJ (c8 (dC (.str "power")) (c8 (dC (.str "again")) de)))))
 (dq [] (dO (c8 (dIx (c9 0) (dC (.int 1))) de)))
 dj)
 (dq [] (dO (c8 (dIx (c9 0) (dC (.int 1))) (c8 (dIx (c9 0) (dC (.int 2))) de))))))
theorem jY{y:D}{z:Str}{zs:List Str}{Q:D->Prop}{b:Bool}(hb:decide (z∈zs)=b)(q:Q (.bl b))(hy:y = .tup (zs.map .str):=by rfl):oCmp .In (.str z) y Q:=.inr (.inl ⟨z,zs,rfl,.inr hy,by rw [if_neg am,hb];exact q⟩)
theorem fB:Does 1 gA dP:=by
 rintro ds Q hn ⟨t,rfl,q⟩;cases t with
 | x=>exact⟨jy (n:=3) (by decide),jY (z := "x") (zs:=["x", "number", "name"]) (b:=true) (by decide) ⟨vL,q _ rfl⟩⟩
 | num a b=>exact⟨jy (n:=3) (by decide),jY (z := "number") (zs:=["x", "number", "name"]) (b:=true) (by decide) ⟨vL,q _ rfl⟩⟩
 | name n=>exact⟨jy (n:=3) (by decide),jY (z := "name") (zs:=["x", "number", "name"]) (b:=true) (by decide) ⟨vL,q _ rfl⟩⟩
 | one g t k =>
  refine⟨jy (n:=3) (by decide),jY (z:=oZ g) (zs:=["x", "number", "name"]) (b:=false) (by cases g <;> decide) ?_⟩;exact⟨jy (n:=2) (by decide),jY (z:=oZ g) (zs:=["power", "again"]) (b:=true) (by cases g <;> decide) ⟨jy (n:=1) (by decide),q _ rfl⟩⟩
 | two o a b =>
  refine⟨jy (n:=3) (by decide),jY (z:=o.s) (zs:=["x", "number", "name"]) (b:=false) (by cases o <;> decide) ?_⟩;exact⟨jy (n:=2) (by decide),jY (z:=o.s) (zs:=["power", "again"]) (b:=false) (by cases o <;> decide) ⟨jy (n:=2) (by decide),q _ rfl⟩⟩
def d8(m:Nat):SpB:=.of 1 (α:=Tm) (fun t ds=>ds=[t.d]/\t.ht<=m/\t.ht<=7) (fun t d=>d = .lst (t.parts.map Tm.d))
def gB(m:Nat):TSd:=(dSq (gG [] 1 (dO (c8 (c9 0) de)))
 (dSq (eE [] (dU (dh dP (c8 (c9 0) de))) (gNm 2)
 (fY [] 1 (dh (d8 m) (c8 (c9 2) de))))
 (dq [1] (c9 1))))
theorem sk{t:Tm}(h7:t.ht<=7)(j:Nat):((t.inn.take j).flatMap Tm.parts).length<=256:=by
 have l1:((t.inn.take j).flatMap Tm.parts).length<=(t.inn.flatMap Tm.parts).length:=by
  conv=>rhs;rw [← List.take_append_drop j t.inn,cN,aB]
  omega
 have h:=t.parts_len;rw [t.parts_eq,aJ] at h;have:=aG (by decide:0<2) h7;omega
theorem dH(m:Nat):Does 3 (gB m) (d8 (m+1)):=by
 rintro ds Q hn ⟨t,⟨rfl,hm,h7⟩,q⟩;dsimp only at q;refine⟨tP,rfl,t,rfl,?_⟩;rintro _ rfl;refine sN _ ⟨fun j s=>∃ o,s=[.val t.d,.own ((t::(t.inn.take j).flatMap Tm.parts).map Tm.d),o],⟨_,rfl⟩,?_,?_⟩
 ·rintro j d _ hd ⟨o,rfl⟩;rw [aA] at hd;obtain⟨u,hu,rfl⟩:=aa.mp hd;have hj:=(aq.mp hu).1;have um:=t.inn_ht (aF hu);refine⟨rfl,u,⟨rfl,by omega,by omega⟩,?_⟩;rintro _ rfl;have hl:(t.inn.take (j+1)).flatMap Tm.parts=(t.inn.take j).flatMap Tm.parts++u.parts:=by
   rw [List.take_succ,hu,cN];simp
  have l1:=sk h7 j;have l2:=u.parts_len;have l3:=aG (by decide:0<2) (show u.ht<=7 by omega);refine⟨_,rfl,?_,.val u.d,?_⟩
  ·rw [aj,aj,aJ];exact jy (by omega)
  ·rw [hl,← List.cons_append,aR];rfl
 ·rintro _ ⟨o,rfl⟩;rw [aj,bH,← t.parts_eq];exact q _ rfl
def ee:SpB:=.of 2 (α:=Nat×Nat×Nat) (fun (a,k,b) ds=>ds=[.int (a:Nat),.int (k:Nat)]/\a<2^b/\k<=6/\b<=10000000) (fun (a,k,_) d=>d = .int ((a^k:Nat):Int))
def e7:TSd:=(dSq (du [] (gNm 2) (dC (.int 1)))
 (dSq (eE [] (fH (c9 1)) (gNm 3)
 (du [] (gNm 2) (dm .Mult (c9 2) (c9 0))))
 (dq [] (c9 2))))
theorem nB{a b:Nat}(h:a<2^b):∀ j,a^j<2^(b*j+1)
 | 0=>by simp
 | j+1=>by
  have:=nB h j;rw [aU,show b*(j+1)+1=(b*j+1)+b by rw [Nat.mul_succ];omega,bF];exact bT this h
theorem i4{n a:Nat}(h:a<2^n):Lt2 n (a:Int):=h
theorem eG:Does 4 e7 ee:=by
 rintro ds Q hn ⟨⟨a,k,b⟩,⟨rfl,ha,hk,hb⟩,q⟩;dsimp only at q hk hb ha;refine⟨by show -(2^62)<=(k:Int);omega,by show (k:Int)<2^62;omega,?_⟩;show ∃ _,_;refine⟨fun j s=>∃ o,s=[.val (.int a),.val (.int k),.val (.int ((a^j:Nat):Int)),o],⟨_,rfl⟩,?_,?_⟩
 ·rintro j d _ hd ⟨o,rfl⟩;obtain⟨hj,rfl⟩:=j3 hd;have hj6:j<=6:=by rw [aI] at hj;omega
  have hbj:b*j<=b*6:=aK b hj6;refine⟨⟨_,_,i4 (nB ha j),i4 ha,by omega⟩,.val (.int (0+(j:Nat))),?_⟩;rw [aU,bv];rfl
 ·rintro _ ⟨o,rfl⟩;rw [jp,aI];exact q _ rfl
end Dp
namespace Dp
open PySem L2
def jf(e:Str->Nat):Tm->Nat
 | .x=>1
 | .num _ _=>1
 | .name n=>e n
 | .one false t k=>if 0<k then jf e t*k else 1
 | .one true t k=>if 0<k then max k (jf e t^k) else 1
 | .two .times a b=>jf e a+jf e b
 | .two .of a b=>jf e a*jf e b
 | .two .plus a b=>max (max (jf e a) (jf e b)) 1
 | .two .minus a b=>max (max (jf e a) (jf e b)) 1
theorem p2{a b:Nat}(h:a<=b):2^a<=2^b:=aG (by decide) h
theorem lU{e:Str->Nat}{ns:List Str}(he:∀ s∈ns,e s<=24):∀{t:Tm},t.Ok ns->jf e t<2^(5*6^t.ht)
 | .x,_=>by show 1<2^(5*6^1);decide
 | .num _ _,_=>by show 1<2^(5*6^1);decide
 | .name n,o=>by show e n<2^(5*6^1);exact aQ (he n o) (by decide)
 | .one g t k,o=>by
  have h:=lU he o.1;have hk:=o.2;have e6:5*6^(t.ht+1)=6*(5*6^t.ht):=by rw [aU];omega
  have b5:5<=5*6^t.ht:=by have:=Nat.one_le_two_pow (n:=0);have:1<=6^t.ht:=bJ (by decide);omega
  show _<2^(5*6^(t.ht+1));rw [e6];generalize 5*6^t.ht=b at h b5 ⊢;have one:1<2^(6*b):=ak (by decide:1<2^1) (p2 (by omega));cases g with
  | false =>
   show (if 0<k then jf e t*k else 1)<_;split
   ·have:jf e t*k<2^b*2^3:=bT h (by omega);rw [← bF] at this;exact ak this (p2 (by omega))
   ·exact one
  | true =>
   show (if 0<k then max k (jf e t^k) else 1)<_;split
   ·refine cb.mpr ⟨ak (by omega:k<2^3) (p2 (by omega)),?_⟩;have:=Nat.pow_lt_pow_left h (show k≠0 by omega);rw [← Nat.pow_mul] at this;exact ak this (p2 (by rw [cj];exact Nat.mul_le_mul_right _ hk))
   ·exact one
 | .two w a b,o=>by
  have ha:=ak (lU he o.1) (p2 (aK 5 (aG (by decide:0<6) (aW a.ht b.ht))));have hb:=ak (lU he o.2) (p2 (aK 5 (aG (by decide:0<6) (aT a.ht b.ht))));have e6:5*6^(max a.ht b.ht+1)=6*(5*6^max a.ht b.ht):=by rw [aU];omega
  have b5:5<=5*6^max a.ht b.ht:=by have:1<=6^max a.ht b.ht:=bJ (by decide);omega
  show _<2^(5*6^(max a.ht b.ht+1));rw [e6];generalize 5*6^max a.ht b.ht=c at ha hb b5 ⊢;have l1:2^c+2^c<=2^(6*c):=by
   have:2^c+2^c=2^(c+1):=by rw [aU];omega
   rw [this];exact p2 (by omega)
  have one:1<2^(6*c):=ak (by decide:1<2^1) (p2 (by omega));cases w with
  | times=>show jf e a+jf e b<_;omega
  | of =>
   show jf e a*jf e b<_;have:=bT ha hb;rw [← bF] at this;exact ak this (p2 (by omega))
  | plus=>exact cb.mpr ⟨cb.mpr ⟨by omega,by omega⟩,one⟩
  | minus=>exact cb.mpr ⟨cb.mpr ⟨by omega,by omega⟩,one⟩
def eN(ns:List Str)(e:Str->Nat):D:=vD ns fun s=>.int (e s:Nat)
def dG(m:Nat):SpB:=.of 2 (α:=Tm×List Str×(Str->Nat)) (fun (t,ns,e) ds=>ds=[t.d,eN ns e]/\t.Ok ns/\t.ht<=m/\t.ht<=7/\∀ s∈ns,e s<=24) (fun (t,_,e) d=>d = .int (jf e t:Nat))
def gN(m:Nat):TSd:=(dSq (dIf [] (dg (dl .Eq (dIx (c9 0) (dC (.int 0))) (dC (.str "power"))))
 (dq [] (dIx (dO (c8 (dC (.int 1)) (c8 (dm .Mult (dIx (c9 2) (dC (.int 0))) (dIx (c9 0) (dC (.int 2)))) de))) (dB bInt bInt.mono (c8 (dl .Gt (dIx (c9 0) (dC (.int 2))) (dC (.int 0))) de))))
 dj)
 (dSq (dIf [] (dg (dl .Eq (dIx (c9 0) (dC (.int 0))) (dC (.str "again"))))
 (dq [] (dIx (dO (c8 (dC (.int 1)) (c8 (dB bMax bMax.mono (c8 (dIx (c9 0) (dC (.int 2))) (c8 (dh ee (c8 (dIx (c9 2) (dC (.int 0))) (c8 (dIx (c9 0) (dC (.int 2))) de))) de))) de))) (dB bInt bInt.mono (c8 (dl .Gt (dIx (c9 0) (dC (.int 2))) (dC (.int 0))) de))))
 dj)
 (dSq (dIf [] (dg (dl .Eq (dIx (c9 0) (dC (.int 0))) (dC (.str "times"))))
 (dq [] (dm .Add (dIx (c9 2) (dC (.int 0))) (dIx (c9 2) (dC (.int 1)))))
 dj)
 (dSq (dIf [] (dg (dl .Eq (dIx (c9 0) (dC (.int 0))) (dC (.str "of"))))
 (dq [] (dm .Mult (dIx (c9 2) (dC (.int 0))) (dIx (c9 2) (dC (.int 1)))))
 dj)
 (dq [] (dB bMax bMax.mono (c8 (dm .Add (c9 2) (dO (c8 (dC (.int 1)) de))) de)))))))
def gC(m:Nat):TSd:=dSq (dIf [] (dg (dl .Eq (dIx (c9 0) (dC (.int 0))) (dC (.str "name"))))
 (dq [] (dIx (c9 1) (dIx (c9 0) (dC (.int 1)))))
 dj) (dSq (du [] (gNm 2) (eh (dU (dh dP (c8 (c9 0) de))) [3] (gNm 3) gv (dh (dG m) (c8 (c9 3) (c8 (c9 1) de))))) (gN m))
theorem iW{a:TEd}{x y:Str}{t r:TSd}{E:EndsD}{ss:SS}(ha:∀ K:D->Prop,K (.str x)->a.run ss K)(h:decide (x=y)=false)(q:r.run E ss):(dSq (dIf [] (dg (dl .Eq a (dC (.str y)))) t dj) r).run E ss:=by
 refine ha _ ?_;show (fun b=>if b=true then t.run (E.to (r.run E)) ss else r.run E ss) (if false=true then !decide (x=y) else decide (x=y));rw [if_neg am,h];exact q
theorem jF{a:TEd}{x y:Str}{t r:TSd}{E:EndsD}{ss:SS}(ha:∀ K:D->Prop,K (.str x)->a.run ss K)(h:decide (x=y)=true)(q:t.run (E.to (r.run E)) ss):(dSq (dIf [] (dg (dl .Eq a (dC (.str y)))) t dj) r).run E ss:=by
 refine ha _ ?_;show (fun b=>if b=true then t.run (E.to (r.run E)) ss else r.run E ss) (if false=true then !decide (x=y) else decide (x=y));rw [if_neg am,h];exact q
theorem lH{l:List Nat}{Q:D->Prop}{M:Nat}(hM:M∈l++[1])(hl:∀ a∈l++[1],a<=M)(q:Q (.int (M:Nat))):bMax [.lst ((l.map fun n=>D.int (n:Nat))++[.int 1])] Q:=by
 refine⟨(l++[1]).map fun n:Nat=>(n:Int),?_,by simp,fun N hN hl'=>?_⟩
 ·rw [aR,aR,ce];rfl
 ·obtain⟨n,hn,rfl⟩:=bg.mp hN;have h1:=hl n hn;have h2:=hl' _ (bg.mpr ⟨M,hM,rfl⟩);have:n=M:=by omega
  rw [this];exact q
theorem Cj{m:Nat}{t:Tm}{ns:List Str}{e:Str->Nat}{x1 o3:SD}{Q:D->Prop}(he:∀ s∈ns,e s<=24)(ok:t.Ok ns)(h7:t.ht<=7)(hn:∀ n,t ≠ .name n)(q:Q (.int (jf e t:Nat))):(gN m).run (jA Q) [.val t.d,x1,.val (.lst (t.inn.map fun u=>.int (jf e u:Nat))),o3]:=by
 have hb:∀ u:Tm,u.Ok ns->u.ht<t.ht->jf e u<2^233280:=fun u uo ul=>ak (lU he uo) (p2 (az (aK 5 (aG (by decide:0<6) (show u.ht<=6 by omega))) (by decide)));cases t with
 | x=>exact iW (x := "x") (fun K k=>k) (by decide) (iW (x := "x") (fun K k=>k) (by decide) (iW (x := "x") (fun K k=>k) (by decide) (iW (x := "x") (fun K k=>k) (by decide) ⟨tP,tP,lH (l:=[]) (M:=1) (by simp) (by simp) q⟩)))
 | num a b=>exact iW (x := "number") (fun K k=>k) (by decide) (iW (x := "number") (fun K k=>k) (by decide) (iW (x := "number") (fun K k=>k) (by decide) (iW (x := "number") (fun K k=>k) (by decide) ⟨tP,tP,lH (l:=[]) (M:=1) (by simp) (by simp) q⟩)))
 | name n=>exact absurd rfl (hn n)
 | one g u k =>
  have hu:=hb u ok.1 (bp _);have hk:=ok.2;have lk:Lt2 4 (k:Int):=i4 (aQ hk (by decide));cases g with
  | false =>
   refine jF (x := "power") (fun K k=>k) (by decide) ⟨⟨_,_,i4 hu,lk,by decide⟩,pP,?_⟩;have q:Q (.int ((if 0<k then jf e u*k else 1:Nat):Int)):=q;by_cases c:0<k
   ·rw [if_pos c,bv] at q;show itD _ (if decide ((0:Int)<(k:Int))=true then 1 else 0) Q;rw [decide_eq_true (by omega)];exact q
   ·rw [if_neg c] at q;show itD _ (if decide ((0:Int)<(k:Int))=true then 1 else 0) Q;rw [decide_eq_false (by omega)];exact q
  | true =>
   refine iW (x := "again") (fun K k=>k) (by decide) (jF (x := "again") (fun K k=>k) (by decide) ⟨rfl,(jf e u,k,233280),⟨rfl,hu,hk,by decide⟩,?_⟩);rintro _ rfl;have q:Q (.int ((if 0<k then max k (jf e u^k) else 1:Nat):Int)):=q;have em:(if (((jf e u)^k:Nat):Int) > (k:Int) then (((jf e u)^k:Nat):Int) else (k:Int))=((max k (jf e u^k):Nat):Int):=by
    split <;> omega
   refine⟨pP,?_⟩;show itD [.int 1,.int (if (((jf e u)^k:Nat):Int) > (k:Int) then (((jf e u)^k:Nat):Int) else (k:Int))] (if decide ((0:Int)<(k:Int))=true then 1 else 0) Q;rw [em];by_cases c:0<k
   ·rw [if_pos c] at q;rw [decide_eq_true (by omega)];exact q
   ·rw [if_neg c] at q;rw [decide_eq_false (by omega)];exact q
 | two w a b =>
  have ha:=hb a ok.1 (aZ (aW _ _));have hB:=hb b ok.2 (aZ (aT _ _));cases w with
  | times =>
   have q:Q (.int ((jf e a+jf e b:Nat):Int)):=q;rw [cs] at q;exact iW (x := "times") (fun K k=>k) (by decide) (iW (x := "times") (fun K k=>k) (by decide) (jF (x := "times") (fun K k=>k) (by decide) q))
  | of =>
   have q:Q (.int ((jf e a*jf e b:Nat):Int)):=q;rw [bv] at q;exact iW (x := "of") (fun K k=>k) (by decide) (iW (x := "of") (fun K k=>k) (by decide) (iW (x := "of") (fun K k=>k) (by decide) (jF (x := "of") (fun K k=>k) (by decide) ⟨⟨_,_,i4 ha,i4 hB,by decide⟩,q⟩)))
  | plus=>exact iW (x := "plus") (fun K k=>k) (by decide) (iW (x := "plus") (fun K k=>k) (by decide) (iW (x := "plus") (fun K k=>k) (by decide) (iW (x := "plus") (fun K k=>k) (by decide) ⟨tP,jy (n:=3) (by decide),lH (l:=[jf e a,jf e b]) (M:=max (max (jf e a) (jf e b)) 1) (by simp;omega) (by simp;omega) q⟩)))
  | minus=>exact iW (x := "minus") (fun K k=>k) (by decide) (iW (x := "minus") (fun K k=>k) (by decide) (iW (x := "minus") (fun K k=>k) (by decide) (iW (x := "minus") (fun K k=>k) (by decide) ⟨tP,jy (n:=3) (by decide),lH (l:=[jf e a,jf e b]) (M:=max (max (jf e a) (jf e b)) 1) (by simp;omega) (by simp;omega) q⟩)))
theorem dI(m:Nat):Does 4 (gC m) (dG (m+1)):=by
 rintro ds Q hn ⟨⟨t,ns,e⟩,⟨rfl,ok,hm,h7,he⟩,q⟩;dsimp only at q ok hm h7 he;have q:=q _ rfl;have rest:(∀ n,t ≠ .name n)->(dSq (du [] (gNm 2) (eh (dU (dh dP (c8 (c9 0) de))) [3] (gNm 3) gv (dh (dG m) (c8 (c9 3) (c8 (c9 1) de))))) (gN m)).run (jA Q) [.val t.d,.val (eN ns e),.no,.no]:=fun nn=>by
  refine⟨rfl,t,rfl,?_⟩;rintro _ rfl;refine sN _ (km (fun i y=>∀ u,t.inn[i]? = some u->y = .int (jf e u:Nat)) ?_ (fun i d hd=>?_) fun ys l hw=>?_)
  ·rw [aj];have:=t.inn_len;omega
  ·rw [aA] at hd;obtain⟨u,hu,rfl⟩:=aa.mp hd;have hm':=aF hu;have um:=t.inn_ht hm';refine⟨rfl,(u,ns,e),⟨rfl,t.inn_ok ok hm',by show u.ht<=m;omega,by show u.ht<=7;omega,he⟩,?_⟩;rintro _ rfl u' hu';rw [hu] at hu';cases hu';rfl
  ·have e0:ys=t.inn.map fun u=>.int (jf e u:Nat):=tG (by rw [l,aj]) fun i y hy u hu=>hw i y hy u hu;subst e0;exact Cj (m:=m) he ok h7 nn q
 cases t with
 | name n=>exact jF (x := "name") (fun K k=>k) (by decide) (qv ok q)
 | x=>exact iW (x := "x") (fun K k=>k) (by decide) (rest fun n h=>by cases h)
 | num a b=>exact iW (x := "number") (fun K k=>k) (by decide) (rest fun n h=>by cases h)
 | one g u k=>exact iW (x:=oZ g) (fun K k=>k) (by cases g <;> decide) (rest fun n h=>by cases h)
 | two w a b=>exact iW (x:=w.s) (fun K k=>k) (by cases w <;> decide) (rest fun n h=>by cases h)
end Dp
namespace Dp
open PySem L2
def xO(p:Nat×Nat):Nat->Nat×Nat
 | 0=>(0,1)
 | j+1=>(p.1+p.2*(xO p j).1,p.2*(xO p j).2)
def jj(e:Str->Nat×Nat):Tm->Nat×Nat
 | .x=>(0,1)
 | .num _ _=>(3,0)
 | .name n=>e n
 | .one false t k=>((jj e t).1*k+1,(jj e t).2*k)
 | .one true t k=>xO (jj e t) k
 | .two .of a b=>((jj e a).1+(jj e a).2*(jj e b).1,(jj e a).2*(jj e b).2)
 | .two .plus a b=>((jj e a).1+(jj e b).1+1,(jj e a).2+(jj e b).2)
 | .two .minus a b=>((jj e a).1+(jj e b).1+1,(jj e a).2+(jj e b).2)
 | .two .times a b=>((jj e a).1+(jj e b).1+1,(jj e a).2+(jj e b).2)
theorem qj{p:Nat×Nat}{b:Nat}(h1:p.1<=2^b)(h2:p.2<=2^b):∀ j,(xO p j).1<=2^(b*j+j)/\(xO p j).2<=2^(b*j+j)
 | 0=>⟨aS _,by show 1<=2^(b*0+0);simp⟩
 | j+1=>by
  obtain⟨i1,i2⟩:=qj h1 h2 j;have e1:b*(j+1)+(j+1)=(b+(b*j+j))+1:=by rw [Nat.mul_succ];omega
  have m1:=bG h2 i1;have m2:=bG h2 i2;rw [← bF] at m1 m2;have l:=p2 (a:=b) (b:=b+(b*j+j)) (by omega);have l2:2^(b+(b*j+j)+1)=2^(b+(b*j+j))+2^(b+(b*j+j)):=by rw [aU];omega
  rw [e1];exact⟨by show p.1+p.2*(xO p j).1<=_;omega,by show p.2*(xO p j).2<=_;omega⟩
theorem nX{e:Str->Nat×Nat}{ns:List Str}(he:∀ s∈ns,(e s).1<=256/\(e s).2<=256):∀{t:Tm},t.Ok ns->(jj e t).1<=2^(10*6^t.ht-2)/\(jj e t).2<=2^(10*6^t.ht-2)
 | .x,_=>⟨aS _,by show 1<=2^(10*6^1-2);decide⟩
 | .num _ _,_=>⟨by show 3<=2^(10*6^1-2);decide,aS _⟩
 | .name n,o=>⟨az (he n o).1 (by show 256<=2^(10*6^1-2);decide),az (he n o).2 (by show 256<=2^(10*6^1-2);decide)⟩
 | .one g t k,o=>by
  obtain⟨h1,h2⟩:=nX he o.1;have hk:=o.2;have e6:10*6^(t.ht+1)-2=6*(10*6^t.ht-2)+10:=by
   have:1<=6^t.ht:=bJ (by decide);rw [aU];omega
  show _<=2^(10*6^(t.ht+1)-2)/\_<=2^(10*6^(t.ht+1)-2);rw [e6];generalize 10*6^t.ht-2=b at h1 h2 ⊢;cases g with
  | false =>
   have m1:=bG h1 hk;have m2:=bG h2 hk;have l:2^b*6+1<=2^(b+3):=by
    have:1<=2^b:=bJ (by decide);rw [bF];omega
   have l2:=p2 (a:=b+3) (b:=6*b+10) (by omega);exact⟨by show (jj e t).1*k+1<=_;omega,by show (jj e t).2*k<=_;omega⟩
  | true =>
   obtain⟨i1,i2⟩:=qj h1 h2 k;have bk:b*k<=b*6:=aK b hk;have l2:=p2 (a:=b*k+k) (b:=6*b+10) (by omega);exact⟨az i1 l2,az i2 l2⟩
 | .two w a b,o=>by
  have c1:10*6^a.ht-2<=10*6^max a.ht b.ht-2:=cK (aK 10 (aG (by decide:0<6) (aW a.ht b.ht))) 2;have c2:10*6^b.ht-2<=10*6^max a.ht b.ht-2:=cK (aK 10 (aG (by decide:0<6) (aT a.ht b.ht))) 2;obtain⟨a1,a2⟩:=nX he o.1;obtain⟨b1,b2⟩:=nX he o.2;have a1:=az a1 (p2 c1);have a2:=az a2 (p2 c1);have b1:=az b1 (p2 c2);have b2:=az b2 (p2 c2);have e6:10*6^(max a.ht b.ht+1)-2=6*(10*6^max a.ht b.ht-2)+10:=by
   have:1<=6^max a.ht b.ht:=bJ (by decide);rw [aU];omega
  show _<=2^(10*6^(max a.ht b.ht+1)-2)/\_<=2^(10*6^(max a.ht b.ht+1)-2);rw [e6];generalize 10*6^max a.ht b.ht-2=c at a1 a2 b1 b2 ⊢;have pc:1<=2^c:=bJ (by decide);have l:2^c+2^c+1<=2^(6*c+10):=by
   have:=p2 (a:=c+2) (b:=6*c+10) (by omega);have:2^(c+2)=4*2^c:=by rw [bF];omega
   omega
  have m1:=bG a2 b1;have m2:=bG a2 b2;rw [← bF] at m1 m2;have l3:2^c+2^(c+c)<=2^(6*c+10):=by
   have h1:=p2 (a:=c+c+1) (b:=6*c+10) (by omega);have h2:=p2 (a:=c) (b:=c+c) (by omega);have:2^(c+c+1)=2^(c+c)+2^(c+c):=by rw [aU];omega
   omega
  cases w with
  | of=>exact⟨by show (jj e a).1+(jj e a).2*(jj e b).1<=_;omega,by show (jj e a).2*(jj e b).2<=_;omega⟩
  | plus=>exact⟨by show (jj e a).1+(jj e b).1+1<=_;omega,by show (jj e a).2+(jj e b).2<=_;omega⟩
  | minus=>exact⟨by show (jj e a).1+(jj e b).1+1<=_;omega,by show (jj e a).2+(jj e b).2<=_;omega⟩
  | times=>exact⟨by show (jj e a).1+(jj e b).1+1<=_;omega,by show (jj e a).2+(jj e b).2<=_;omega⟩
def n2(p:Nat×Nat):D:=.tup [.int (p.1:Nat),.int (p.2:Nat)]
def eP(ns:List Str)(e:Str->Nat×Nat):D:=vD ns fun s=>n2 (e s)
def dX(m:Nat):SpB:=.of 2 (α:=Tm×List Str×(Str->Nat×Nat)) (fun (t,ns,e) ds=>ds=[t.d,eP ns e]/\t.Ok ns/\t.ht<=m/\t.ht<=7/\∀ s∈ns,(e s).1<=256/\(e s).2<=256) (fun (t,_,e) d=>d=n2 (jj e t))
def ip(m:Nat):TSd:=(dSq (dIf [] (dg (dl .Eq (dIx (c9 0) (dC (.int 0))) (dC (.str "power"))))
 (dq [] (dJ (c8 (dm .Add (dm .Mult (c9 4) (dIx (c9 0) (dC (.int 2)))) (dC (.int 1))) (c8 (dm .Mult (c9 5) (dIx (c9 0) (dC (.int 2)))) de))))
 dj)
 (dSq (dIf [] (dg (dl .Eq (dIx (c9 0) (dC (.int 0))) (dC (.str "of"))))
 (dq [] (dJ (c8 (dm .Add (c9 4) (dm .Mult (c9 5) (dIx (dIx (c9 2) (dC (.int 1))) (dC (.int 0))))) (c8 (dm .Mult (c9 5) (dIx (dIx (c9 2) (dC (.int 1))) (dC (.int 1)))) de))))
 dj)
 (dSq (dIf [] (dg (dl .Eq (dIx (c9 0) (dC (.int 0))) (dC (.str "again"))))
 (dSq (du [] (gNm 6) (dJ (c8 (dC (.int 0)) (c8 (dC (.int 1)) de))))
 (dSq (eE [] (fH (dIx (c9 0) (dC (.int 2)))) (gNm 7)
 (du [] (gNm 6) (dJ (c8 (dm .Add (c9 4) (dm .Mult (c9 5) (dIx (c9 6) (dC (.int 0))))) (c8 (dm .Mult (c9 5) (dIx (c9 6) (dC (.int 1)))) de)))))
 (dq [] (c9 6))))
 dj)
 (dq [] (dJ (c8 (dm .Add (dm .Add (c9 4) (dIx (dIx (c9 2) (dC (.int 1))) (dC (.int 0)))) (dC (.int 1))) (c8 (dm .Add (c9 5) (dIx (dIx (c9 2) (dC (.int 1))) (dC (.int 1)))) de)))))))
def iL(m:Nat):TSd:=dSq (du [] (gTp [4,5]) (dIx (c9 2) (dC (.int 0)))) (ip m)
def iq(m:Nat):TSd:=dSq (du [] (gNm 2) (eh (dU (dh dP (c8 (c9 0) de))) [3] (gNm 3) gv (dh (dX m) (c8 (c9 3) (c8 (c9 1) de))))) (iL m)
def gO(m:Nat):TSd:=dSq (dIf [] (dg (dl .Eq (dIx (c9 0) (dC (.int 0))) (dC (.str "x"))))
 (dq [] (dJ (c8 (dC (.int 0)) (c8 (dC (.int 1)) de))))
 dj) (dSq (dIf [] (dg (dl .Eq (dIx (c9 0) (dC (.int 0))) (dC (.str "number"))))
 (dq [] (dJ (c8 (dC (.int 3)) (c8 (dC (.int 0)) de))))
 dj) (dSq (dIf [] (dg (dl .Eq (dIx (c9 0) (dC (.int 0))) (dC (.str "name"))))
 (dq [] (dIx (c9 1) (dIx (c9 0) (dC (.int 1)))))
 dj) (iq m)))
abbrev hB:Nat:=466560
theorem C2{e:Str->Nat×Nat}{ns:List Str}(he:∀ s∈ns,(e s).1<=256/\(e s).2<=256){u:Tm}(uo:u.Ok ns)(ul:u.ht<=6):(jj e u).1<2^hB/\(jj e u).2<2^hB:=by
 obtain⟨h1,h2⟩:=nX he uo;have:10*6^u.ht-2<hB:=by
  have:=aK 10 (aG (by decide:0<6) ul);have:10*6^6=466560:=by decide
  have:1<=6^u.ht:=bJ (by decide);show _<466560;omega
 have:=cL (a:=2) (by decide) this;exact⟨aQ h1 this,aQ h2 this⟩
theorem Cl{m:Nat}{t:Tm}{ns:List Str}{e:Str->Nat×Nat}{x1 o3 o6 o7:SD}{Q:D->Prop}(he:∀ s∈ns,(e s).1<=256/\(e s).2<=256)(ok:t.Ok ns)(h7:t.ht<=7)(v:Tm)(r:List Tm)(hn:t.inn=v::r)(q:Q (n2 (jj e t))):(ip m).run (jA Q) [.val t.d,x1,.val (.lst (t.inn.map fun u=>n2 (jj e u))),o3,.val (.int ((jj e v).1:Nat)),.val (.int ((jj e v).2:Nat)),o6,o7]:=by
 have lb:=fun (u:Tm) (uo:u.Ok ns) (ul:u.ht<t.ht)=>C2 he uo (show u.ht<=6 by omega);cases t with
 | x=>cases hn
 | num a b=>cases hn
 | name n=>cases hn
 | one g u k =>
  obtain⟨rfl,rfl⟩:u=v/\[]=r:=by cases hn;exact⟨rfl,rfl⟩
  obtain⟨u1,u2⟩:=lb u ok.1 (bp _);have hk:=ok.2;have lk:Lt2 4 (k:Int):=i4 (aQ hk (by decide));cases g with
  | false =>
   refine jF (x := "power") (fun K k=>k) (by decide) ⟨⟨_,_,i4 u1,lk,by decide⟩,⟨_,_,i4 u2,lk,by decide⟩,pP,?_⟩;exact q
  | true =>
   refine iW (x := "again") (fun K k=>k) (by decide) (iW (x := "again") (fun K k=>k) (by decide) (jF (x := "again") (fun K k=>k) (by decide) ?_));refine⟨pP,by show -(2^62)<=(k:Int);omega,by show (k:Int)<2^62;omega,?_⟩;show ∃ _,_;refine⟨fun j s=>∃ o,s=[.val (Tm.one true u k).d,x1,.val (.lst [n2 (jj e u)]),o3,.val (.int ((jj e u).1:Nat)),.val (.int ((jj e u).2:Nat)),.val (n2 (xO (jj e u) j)),o],⟨_,rfl⟩,?_,?_⟩
   ·rintro j d _ hd ⟨o,rfl⟩;obtain⟨hj,rfl⟩:=j3 hd;have hj6:j<=6:=by rw [aI] at hj;omega
    obtain⟨i1,i2⟩:=qj (a6 u1) (a6 u2) j;have bj:hB*j+j<3000000:=by
     have:=aK hB hj6;show 466560*j+j<_;omega
    have pj:=cL (a:=2) (by decide) bj;have j1:=aQ i1 pj;have j2:=aQ i2 pj;refine⟨⟨_,_,i4 u2,i4 j1,by decide⟩,⟨_,_,i4 u2,i4 j2,by decide⟩,pP,.val (.int (0+(j:Nat))),?_⟩;rfl
   ·rintro _ ⟨o,rfl⟩;rw [jp,aI];exact q
 | two w a b =>
  obtain⟨rfl,rfl⟩:a=v/\[b]=r:=by cases hn;exact⟨rfl,rfl⟩
  obtain⟨a1,a2⟩:=lb a ok.1 (aZ (aW _ _));obtain⟨b1,b2⟩:=lb b ok.2 (aZ (aT _ _));cases w with
  | of=>exact iW (x := "of") (fun K k=>k) (by decide) (jF (x := "of") (fun K k=>k) (by decide) ⟨⟨_,_,i4 a2,i4 b1,by decide⟩,⟨_,_,i4 a2,i4 b2,by decide⟩,pP,q⟩)
  | plus=>exact iW (x := "plus") (fun K k=>k) (by decide) (iW (x := "plus") (fun K k=>k) (by decide) (iW (x := "plus") (fun K k=>k) (by decide) ⟨pP,q⟩))
  | minus=>exact iW (x := "minus") (fun K k=>k) (by decide) (iW (x := "minus") (fun K k=>k) (by decide) (iW (x := "minus") (fun K k=>k) (by decide) ⟨pP,q⟩))
  | times=>exact iW (x := "times") (fun K k=>k) (by decide) (iW (x := "times") (fun K k=>k) (by decide) (iW (x := "times") (fun K k=>k) (by decide) ⟨pP,q⟩))
theorem dM(m:Nat):Does 8 (gO m) (dX (m+1)):=by
 rintro ds Q hn ⟨⟨t,ns,e⟩,⟨rfl,ok,hm,h7,he⟩,q⟩;dsimp only at q ok hm h7 he;have q:=q _ rfl;have rest:t.inn≠[]->(iq m).run (jA Q) [.val t.d,.val (eP ns e),.no,.no,.no,.no,.no,.no]:=fun nn=>by
  refine⟨rfl,t,rfl,?_⟩;rintro _ rfl;refine sN _ (km (fun i y=>∀ u,t.inn[i]? = some u->y=n2 (jj e u)) ?_ (fun i d hd=>?_) fun ys l hw=>?_)
  ·rw [aj];have:=t.inn_len;omega
  ·rw [aA] at hd;obtain⟨u,hu,rfl⟩:=aa.mp hd;have hm':=aF hu;have um:=t.inn_ht hm';refine⟨rfl,(u,ns,e),⟨rfl,t.inn_ok ok hm',by show u.ht<=m;omega,by show u.ht<=7;omega,he⟩,?_⟩;rintro _ rfl u' hu';rw [hu] at hu';cases hu';rfl
  ·have e0:ys=t.inn.map fun u=>n2 (jj e u):=tG (by rw [l,aj]) fun i y hy u hu=>hw i y hy u hu;subst e0;obtain⟨v,r,hv⟩:∃ v r,t.inn=v::r:=by
    cases e0:t.inn with
    | nil=>exact absurd e0 nn
    | cons v r=>exact⟨v,r,rfl⟩
   have:=Cl (m:=m) (x1:=.val (eP ns e)) (o3:=.no) (o6:=.no) (o7:=.no) he ok h7 v r hv q;rw [hv] at this ⊢;exact rq (n:=0) (d:=n2 (jj e v)) rfl ⟨rfl,this⟩
 cases t with
 | x=>exact jF (x := "x") (fun K k=>k) (by decide) ⟨pP,q⟩
 | num a b=>exact iW (x := "number") (fun K k=>k) (by decide) (jF (x := "number") (fun K k=>k) (by decide) ⟨pP,q⟩)
 | name n=>exact iW (x := "name") (fun K k=>k) (by decide) (iW (x := "name") (fun K k=>k) (by decide) (jF (x := "name") (fun K k=>k) (by decide) (qv ok q)))
 | one g u k=>exact iW (x:=oZ g) (fun K k=>k) (by cases g <;> decide) (iW (x:=oZ g) (fun K k=>k) (by cases g <;> decide) (iW (x:=oZ g) (fun K k=>k) (by cases g <;> decide) (rest (by simp [Tm.inn]))))
 | two w a b=>exact iW (x:=w.s) (fun K k=>k) (by cases w <;> decide) (iW (x:=w.s) (fun K k=>k) (by cases w <;> decide) (iW (x:=w.s) (fun K k=>k) (by cases w <;> decide) (rest (by simp [Tm.inn]))))
end Dp
namespace Dp
open PySem L2
def jG(e:Str->Nat)(h:Str->Nat×Nat)(t:Tm):Bool:=t.parts.all fun p=>decide (jf e p<=24) && decide ((jj h p).1+3*(jj h p).2<=150)
theorem Tm.parts_ok{ns:List Str}:∀{t p:Tm},t.Ok ns->p∈t.parts->p.Ok ns/\p.ht<=t.ht
 | .x,p,o,h=>by rw [ao.mp h];exact⟨o,ai _⟩
 | .num _ _,p,o,h=>by rw [ao.mp h];exact⟨o,ai _⟩
 | .name _,p,o,h=>by rw [ao.mp h];exact⟨o,ai _⟩
 | .one g t k,p,o,h=>by
  rcases ah.mp h with rfl|h
  ·exact⟨o,ai _⟩
  ·obtain⟨h1,h2⟩:=Tm.parts_ok o.1 h;exact⟨h1,cn h2⟩
 | .two w a b,p,o,h=>by
  rcases ah.mp h with rfl|h
  ·exact⟨o,ai _⟩
  ·rcases bd.mp h with h|h
   ·obtain⟨h1,h2⟩:=Tm.parts_ok o.1 h;exact⟨h1,cn (az h2 (aW _ _))⟩
   ·obtain⟨h1,h2⟩:=Tm.parts_ok o.2 h;exact⟨h1,cn (az h2 (aT _ _))⟩
def dZ:SpB:=.of 3 (α:=Tm×List Str×(Str->Nat)×(Str->Nat×Nat)) (fun (t,ns,e,h) ds=>ds=[t.d,eN ns e,eP ns h]/\t.Ok ns/\t.ht<=6/\(∀ s∈ns,e s<=24)/\∀ s∈ns,(h s).1<=256/\(h s).2<=256) (fun (t,_,e,h) d=>d = .bl (jG e h t))
def fE:TSd:=(dSq (eE [] (dU (dh (d8 6) (c8 (c9 0) de))) (gNm 3)
 (dSq (du [] (gTp [4,5]) (dh (dX 6) (c8 (c9 3) (c8 (c9 2) de))))
 (dIf [] (eQ (dg (dl .Gt (dh (dG 6) (c8 (c9 3) (c8 (c9 1) de))) (dC (.int 24)))) (dg (dl .Gt (dm .Add (c9 4) (dm .Mult (dC (.int 3)) (c9 5))) (dC (.int 150)))))
 (dq [] (dC (.bl false)))
 dj)))
 (dq [] (dC (.bl true))))
theorem eX:Does 6 fE dZ:=by
 rintro ds Q hn ⟨⟨t,ns,e,h⟩,⟨rfl,ok,h6,he,hh⟩,q⟩;dsimp only at q ok h6 he hh;have q:=q _ rfl;refine⟨rfl,t,⟨rfl,h6,by omega⟩,?_⟩;rintro _ rfl;refine sN _ ⟨fun j s=>∃ o3 o4 o5,s=[.val t.d,.val (eN ns e),.val (eP ns h),o3,o4,o5]/\∀ i p,i<j->t.parts[i]? = some p->jf e p<=24/\(jj h p).1+3*(jj h p).2<=150,⟨_,_,_,rfl,fun i p hi=>by omega⟩,?_,?_⟩
 ·rintro j d _ hd ⟨o3,o4,o5,rfl,all⟩;rw [aA] at hd;obtain⟨p,hp,rfl⟩:=aa.mp hd;obtain⟨po,ph⟩:=t.parts_ok ok (aF hp);obtain⟨b1,b2⟩:=C2 hh po (by omega);have bad:¬ (jf e p<=24/\(jj h p).1+3*(jj h p).2<=150)->Q (.bl false):=fun c=>by
   have:jG e h t=false:=by
    apply cZ.mpr;intro z;have:=aP.mp z p (aF hp);rw [aC] at this;exact c ⟨of_decide_eq_true this.1,of_decide_eq_true this.2⟩
   rwa [this] at q
  refine⟨rfl,(p,ns,h),⟨rfl,po,by show p.ht<=6;omega,by show p.ht<=7;omega,hh⟩,?_⟩;rintro _ rfl;refine⟨rfl,rfl,(p,ns,e),⟨rfl,po,by show p.ht<=6;omega,by show p.ht<=7;omega,he⟩,?_⟩;rintro _ rfl;refine oX (p:=(24:Int)<(jf e p:Nat)) (fun c=>bad fun z=>by omega) (fun c=>?_);refine⟨⟨_,_,my (n:=10) (by decide),i4 b2,by decide⟩,?_⟩;refine oX (p:=(150:Int)<((jj h p).1:Nat)+3*((jj h p).2:Nat)) (fun c2=>bad fun z=>by omega) (fun c2=>?_);refine⟨.val p.d,.val (.int ((jj h p).1:Nat)),.val (.int ((jj h p).2:Nat)),rfl,fun i p' hi hp'=>?_⟩;by_cases ij:i<j
  ·exact all i p' ij hp'
  ·have:i=j:=by omega
   subst this;rw [hp] at hp';cases hp';exact⟨by omega,by omega⟩
 ·rintro _ ⟨o3,o4,o5,rfl,all⟩;have:jG e h t=true:=aP.mpr fun p hp=>by
   obtain⟨i,hi,e1⟩:=bM hp;obtain⟨c1,c2⟩:=all i p (by rw [aj];exact hi) (by rw [aw hi,e1]);rw [decide_eq_true c1,decide_eq_true c2];rfl
  rw [this] at q;exact q
def vC{α:Type}(f:(Str->α)->Tm->α)(z:α)(rows:List (Str×Tm)):Str->α:=rows.foldl (fun e r s=>if s=r.1 then f e r.2 else e s) (fun _=>z)
theorem kR{α:Type}{f:(Str->α)->Tm->α}{z:α}{rows:List (Str×Tm)}{r:Str×Tm}:vC f z (rows++[r])=fun s=>if s=r.1 then f (vC f z rows) r.2 else vC f z rows s:=by
 unfold vC;rw [List.foldl_append];rfl
theorem nZ{α:Type}{f:(Str->α)->Tm->α}{z:α}{rows:List (Str×Tm)}{n:Str}{t:Tm}:vC f z (rows++[(n,t)]) n=f (vC f z rows) t:=by
 rw [kR];exact if_pos rfl
theorem nY{α:Type}{f:(Str->α)->Tm->α}{z:α}{rows:List (Str×Tm)}{n s:Str}{t:Tm}(h:s≠n):vC f z (rows++[(n,t)]) s=vC f z rows s:=by
 rw [kR];exact if_neg h
abbrev kL(rows:List (Str×Tm)):Str->Nat:=vC jf 1 rows
abbrev qm(rows:List (Str×Tm)):Str->Nat×Nat:=vC jj (0,0) rows
abbrev jX(rows:List (Str×Tm)):List Str:=rows.map (·.1)
def kY(r:Str×Tm):D:=.tup [.str r.1,r.2.d]
inductive RowsOk:List (Str×Tm)->Prop
 | nil:RowsOk []
 | snoc {rows:List (Str×Tm)} {n:Str} {t:Tm}:RowsOk rows->n ∉ jX rows->1<=n.length->n.length<=7->t.Ok (jX rows)->t.ht<=6->jG (kL rows) (qm rows) t=true->RowsOk (rows++[(n,t)])
theorem sI{e:Str->Nat}{h:Str->Nat×Nat}{t:Tm}(l:jG e h t=true):jf e t<=24/\(jj h t).1+3*(jj h t).2<=150:=by
 have:=aP.mp l t (by rw [t.parts_eq];exact av);rw [aC] at this;exact⟨of_decide_eq_true this.1,of_decide_eq_true this.2⟩
theorem RowsOk.lim{rows:List (Str×Tm)}(h:RowsOk rows):(∀ s∈jX rows,kL rows s<=24)/\∀ s∈jX rows,(qm rows s).1+3*(qm rows s).2<=150:=by
 induction h with
 | nil=>exact⟨fun s h=>(by cases h),fun s h=>(by cases h)⟩
 | snoc r n1 n2 n3 ok ht l ih =>
  obtain⟨l1,l2⟩:=sI l;unfold jX kL qm;rw [kR,kR,aR];refine⟨fun s hs=>?_,fun s hs=>?_⟩
  ·dsimp only;split
   ·exact l1
   ·rename_i ne;rcases bd.mp hs with hs|hs
    ·exact ih.1 s hs
    ·exact absurd (ao.mp hs) ne
  ·dsimp only;split
   ·exact l2
   ·rename_i ne;rcases bd.mp hs with hs|hs
    ·exact ih.2 s hs
    ·exact absurd (ao.mp hs) ne
def sL(ns:List Str)(f:Str->D):List (jb×D):=ns.map fun s=>(Sum.inr s,f s)
theorem oR{ns:List Str}{f:Str->D}:D.dct ((sL ns f).map (·.1)) ((sL ns f).map (·.2))=vD ns f:=by
 unfold sL vD;rw [ce,ce];rfl
theorem nS{ns:List Str}{f g:Str->D}{n:Str}{d:D}(h:n ∉ ns)(e:∀ s∈ns,g s=f s)(e2:g n=d):oH (sL ns f) (Sum.inr n) d=sL (ns++[n]) g:=by
 have:((sL ns f).any fun kv=>decide (kv.1=Sum.inr n))=false:=by
  rw [cV];intro kv hkv;obtain⟨s,hs,rfl⟩:=bg.mp hkv;intro z;have:=of_decide_eq_true z;injection this with this;exact h (this ▸ hs)
 unfold oH;rw [this,if_neg am];unfold sL;rw [aR];show _++[(Sum.inr n,d)]=_++[(Sum.inr n,g n)];rw [e2];congr 1;exact List.map_congr_left fun s hs=>by rw [e s hs]
theorem xa{l:List D}{a:Nat}(h:a<=l.length):n6 l none (some (a:Int))=l.take a:=by
 unfold n6;rw [HT.tT,HT.vO,Nat.min_eq_left h,cu,Nat.sub_zero]
def dR:SpB:=.of 2 (α:=Unit) (fun _ ds=>ds=[.fl,.int 6]) (fun _ d=>∃ rows,d = .tup (rows.map kY)/\RowsOk rows/\rows≠[]/\rows.length<=6)
def gj:TSd:=(dSq (gH [] 5 (dJ (c8 (c9 7) (c8 (c9 8) de))))
 (dSq (et 3 (c9 7) (eF (dh (dG 6) (c8 (c9 8) (c8 (c9 3) de)))))
 (et 4 (c9 7) (eF (dh (dX 6) (c8 (c9 8) (c8 (c9 4) de)))))))
def ir:TSd:=dSq (du [] (gNm 8) (dh (dE 6) (c8 (c9 0) (c8 (dSl (c9 2) dNo (fh (c9 6))) (c8 (dIx (dO (c8 (dC (.int 1)) (c8 (dC (.int 3)) (c8 (dC (.int 6)) (c8 (dC (.int 12)) de))))) (dh df (c8 (c9 0) (c8 (dC (.int 4)) de)))) (c8 (dC (.int 5)) de)))))) (dSq (fI [3,4] (eI (fj (dh dZ (c8 (c9 8) (c8 (c9 3) (c8 (c9 4) de))))))
 (du [] (gNm 8) (dJ (c8 (dC (.str "plus")) (c8 (dh dW (c8 (c9 0) (c8 (dO de) de))) (c8 (dIx (dO (c8 (dJ (c8 (dC (.str "x")) de)) (c8 (dJ (c8 (dC (.str "times")) (c8 (dJ (c8 (dC (.str "x")) de)) (c8 (dJ (c8 (dC (.str "x")) de)) de)))) de))) (dh df (c8 (c9 0) (c8 (dC (.int 2)) de)))) de)))))
 dj) gj)
def iu:TSd:=dSq (eE [] (fX (c9 2)) (gTp [6,7]) ir) (dq [5] (dB bTuple bTuple.mono (c8 (c9 5) de)))
def fo:TSd:=dSq (du [] (gNm 2) (dh eU (c8 (c9 0) (c8 (dm .Add (dC (.int 1)) (dh df (c8 (c9 0) (c8 (c9 1) de)))) de)))) (dSq (f6 3) (dSq (f6 4) (dSq (gG [] 5 (dO de)) iu)))
abbrev vR(ns:List Str)(rows:List (Str×Tm))(o6 o7 o8:SD):SS:=[.val .fl,.val (.int 6),.val (.lst (ns.map .str)),.odc (sL (jX rows) fun s=>.int (kL rows s:Nat)),.odc (sL (jX rows) fun s=>n2 (qm rows s)),.own (rows.map kY),o6,o7,o8]
theorem AU{ns:List Str}{rows:List (Str×Tm)}{n:Str}{t:Tm}{o6:SD}{E:EndsD}(ro:RowsOk rows)(nn:n ∉ jX rows)(n1:1<=n.length)(n2':n.length<=7)(ok:t.Ok (jX rows))(ht:t.ht<=6)(l:jG (kL rows) (qm rows) t=true)(hl:rows.length<=6)(q:E.nx (vR ns (rows++[(n,t)]) o6 (.val (.str n)) (.val t.d))):gj.run E (vR ns rows o6 (.val (.str n)) (.val t.d)):=by
 obtain⟨lim1,lim2⟩:=ro.lim;refine⟨pP,jy (by rw [aj];omega),rfl,(t,jX rows,kL rows),⟨congrArg (fun z=>[t.d,z]) oR,ok,ht,by show t.ht<=7;omega,lim1⟩,?_⟩;rintro _ rfl;refine⟨rfl,Sum.inr n,rfl,jy (by unfold sL;rw [aj,aj];omega),?_⟩;refine⟨rfl,(t,jX rows,qm rows),⟨congrArg (fun z=>[t.d,z]) oR,ok,ht,by show t.ht<=7;omega,fun s hs=>by have:=lim2 s hs;omega⟩,?_⟩;rintro _ rfl;refine⟨rfl,Sum.inr n,rfl,jy (by unfold sL;rw [aj,aj];omega),?_⟩;have k1:=nS (f:=fun s=>D.int (kL rows s:Nat)) (g:=fun s=>D.int (kL (rows++[(n,t)]) s:Nat)) (d:=.int (jf (kL rows) t:Nat)) nn (fun s hs=>congrArg (fun x:Nat=>D.int x) (nY fun e=>nn (e ▸ hs))) (congrArg (fun x:Nat=>D.int x) nZ);have k2:=nS (f:=fun s=>n2 (qm rows s)) (g:=fun s=>n2 (qm (rows++[(n,t)]) s)) (d:=n2 (jj (qm rows) t)) nn (fun s hs=>congrArg n2 (nY fun e=>nn (e ▸ hs))) (congrArg n2 nZ);rw [k1,k2];unfold vR at q;rw [show jX (rows++[(n,t)])=jX rows++[n] from aR,aR] at q;exact q
end Dp
namespace Dp
open PySem L2
theorem lI{ns:List Str}{j:Nat}{r:Int}(hj:j<=ns.length)(hl:ns.length<=6)(hr:r<=12){K:D->Prop}(hK:∀ t:Tm,t.Ok (ns.take j)->t.ht<=6->K t.d):[D.fl,.lst (n6 (ns.map .str) none (some ((j:Nat):Int))),.int r,.int 5].length=(dE 6).n/\(dE 6).run [D.fl,.lst (n6 (ns.map .str) none (some ((j:Nat):Int))),.int r,.int 5] K:=by
 refine⟨rfl,(ns.take j,r,5),⟨?_,by show (ns.take j).length<=6;rw [a7];omega,hr,by show 5<6;decide⟩,?_⟩
 ·rw [xa (by rw [aj];exact hj),List.map_take];rfl
 ·rintro _ ⟨t,rfl,o,h⟩;exact hK t o h
theorem yl{l:Tm}(lo:l.Ok [])(lh:l.ht=1){ns:List Str}{e:Str->Nat}{h:Str->Nat×Nat}{b:Tm}(hb:b = .x\/b = .two .times .x .x):(Tm.two .plus l b).Ok ns/\(Tm.two .plus l b).ht<=6/\jG e h (.two .plus l b)=true:=by
 have ll:l = .x\/∃ p q,l = .num p q:=by
  cases l with
  | x=>exact .inl rfl
  | num p q=>exact .inr ⟨p,q,rfl⟩
  | name n=>cases lo
  | one g t k=>have:=t.ht_pos;have:t.ht+1=1:=lh;omega
  | two o a b=>have:=a.ht_pos;have:max a.ht b.ht+1=1:=lh;omega
 rcases ll with rfl|⟨p,q,rfl⟩ <;> rcases hb with rfl|rfl
 ·exact⟨⟨trivial,trivial⟩,by decide,rfl⟩
 ·exact⟨⟨trivial,trivial,trivial⟩,by decide,rfl⟩
 ·exact⟨⟨lo,trivial⟩,by show max 1 1+1<=6;decide,rfl⟩
 ·exact⟨⟨lo,trivial,trivial⟩,by show max 1 (max 1 1+1)+1<=6;decide,rfl⟩
theorem Ck{ns:List Str}{rows:List (Str×Tm)}{j:Nat}{n:Str}{o7 o8:SD}{E:EndsD}(ro:RowsOk rows)(hr:jX rows=ns.take j)(hj:j<ns.length)(hl:ns.length<=6)(nn:n ∉ jX rows)(n1:1<=n.length)(n7:n.length<=7)(q:∀(t:Tm),RowsOk (rows++[(n,t)])->E.nx (vR ns (rows++[(n,t)]) (.val (.int (j:Nat))) (.val (.str n)) (.val t.d))):ir.run E (vR ns rows (.val (.int (j:Nat))) (.val (.str n)) o8):=by
 obtain⟨lim1,lim2⟩:=ro.lim;have rl:rows.length<=6:=by
  have:=congrArg List.length hr;rw [aj,a7] at this;omega
 have hK:∀ t:Tm,t.Ok (ns.take j)->t.ht<=6->(dSq (fI [3,4] (eI (fj (dh dZ (c8 (c9 8) (c8 (c9 3) (c8 (c9 4) de))))))
 (du [] (gNm 8) (dJ (c8 (dC (.str "plus")) (c8 (dh dW (c8 (c9 0) (c8 (dO de) de))) (c8 (dIx (dO (c8 (dJ (c8 (dC (.str "x")) de)) (c8 (dJ (c8 (dC (.str "times")) (c8 (dJ (c8 (dC (.str "x")) de)) (c8 (dJ (c8 (dC (.str "x")) de)) de)))) de))) (dh df (c8 (c9 0) (c8 (dC (.int 2)) de)))) de)))))
 dj) gj).run E (vR ns rows (.val (.int (j:Nat))) (.val (.str n)) (.val t.d)):=fun t ok ht=>by
  rw [← hr] at ok;refine⟨rfl,(t,jX rows,kL rows,qm rows),⟨(congrArg (fun z=>[t.d,z,_]) oR).trans (congrArg (fun z=>[t.d,_,z]) oR),ok,ht,lim1,fun s hs=>by have:=lim2 s hs;omega⟩,?_⟩;rintro _ rfl;show if (!jG (kL rows) (qm rows) t)=true then _ else _;cases hb:jG (kL rows) (qm rows) t with
  | true=>exact AU ro nn n1 n7 ok ht hb rl (q t (ro.snoc nn n1 n7 ok ht hb))
  | false =>
   refine⟨vL,rfl,[],⟨rfl,by decide⟩,?_⟩;rintro _ ⟨l,rfl,lo,lh⟩;have fin:∀ b:Tm,(b = .x\/b = .two .times .x .x)->[D.str "plus",l.d,b.d].length<=sizeLine/\gj.run E (vR ns rows (.val (.int (j:Nat))) (.val (.str n)) (.val (Tm.two .plus l b).d)):=fun b hb=>by
    obtain⟨c1,c2,c3⟩:=yl (ns:=jX rows) (e:=kL rows) (h:=qm rows) lo lh hb;exact⟨jy (n:=3) (by decide),AU ro nn n1 n7 c1 c2 c3 rl (q _ (ro.snoc nn n1 n7 c1 c2 c3))⟩
   refine⟨tP,tP,tP,jy (n:=3) (by decide),pP,rfl,2,⟨rfl,by decide,my (by decide)⟩,?_⟩;rintro _ ⟨i,rfl,i0,i1⟩;exact yJ i0 i1 (fin .x (.inl rfl)) (fin (.two .times .x .x) (.inr rfl))
 refine⟨jy (n:=4) (by decide),rfl,4,⟨rfl,by decide,my (by decide)⟩,?_⟩;rintro _ ⟨i,rfl,i0,i1⟩;exact ua i0 i1 (lI (a6 hj) hl (by decide) hK) (lI (a6 hj) hl (by decide) hK) (lI (a6 hj) hl (by decide) hK) (lI (a6 hj) hl (by decide) hK)
theorem eO:Does 9 fo dR:=by
 rintro ds Q hn ⟨_,rfl,q⟩;dsimp only at q;refine⟨rfl,6,⟨rfl,by decide,my (by decide)⟩,?_⟩;rintro _ ⟨k,rfl,k0,k1⟩;obtain⟨k,rfl⟩:=aM k0;refine⟨rfl,1+k,⟨by show [D.fl,.int (1+(k:Int))]=[D.fl,.int ((1+k:Nat):Int)];rw [cs];rfl,by show 1<=1+k;omega,by show 1+k<=6;omega⟩,?_⟩;rintro _ ⟨ns,rfl,l,nd,wz⟩;have go:iu.run (jA Q) (vR ns [] .no .no .no):=by
  refine⟨fun j s=>∃ rows o6 o7 o8,s=vR ns rows o6 o7 o8/\RowsOk rows/\jX rows=ns.take j,⟨[],_,_,_,rfl,.nil,rfl⟩,?_,?_⟩
  ·rintro j d _ hd ⟨rows,o6,o7,o8,rfl,ro,hr⟩;obtain⟨x,hx,rfl⟩:=sX hd;rw [aA] at hx;obtain⟨n,hy,rfl⟩:=aa.mp hx;obtain⟨hj,rfl⟩:=aq.mp hy;obtain⟨w1,w2⟩:=wz _ (c6 hj);have nn:ns[j] ∉ jX rows:=fun z=>by
    rw [hr] at z;obtain⟨i,hi,e⟩:=bM z;rw [a7] at hi;rw [List.getElem_take] at e;exact cA.mp nd i j (by omega) hj (by omega) e
   refine⟨rfl,Ck (o7:=o7) ro hr hj (by omega) nn w1 w2 fun t h=>⟨_,_,_,_,rfl,h,?_⟩⟩;rw [show jX (rows++[(ns[j],t)])=jX rows++[ns[j]] from aR,hr,List.take_append_getElem]
  ·rintro _ ⟨rows,o6,o7,o8,rfl,ro,hr⟩;have e1:(ma (ns.map D.str)).length=ns.length:=by rw [ju,aj]
   rw [e1,bH] at hr;have hl:rows.length=ns.length:=by rw [← hr,aj]
   exact q _ ⟨rows,rfl,ro,fun z=>by rw [z] at hl;simp at hl;omega,by omega⟩
 exact⟨vL,go⟩
end Dp
namespace Dp
open PySem L2
def d9:SpB:=.of 1 (α:=Tm) (fun t ds=>ds=[t.d]) (fun t d=>d = .lst (t.inn.map Tm.d))
def fR:TSd:=(dSq (dIf [] (dg (dl .In (dIx (c9 0) (dC (.int 0))) (dJ (c8 (dC (.str "plus")) (c8 (dC (.str "minus")) (c8 (dC (.str "times")) (c8 (dC (.str "of")) de)))))))
 (dq [] (dO (c8 (dIx (c9 0) (dC (.int 1))) (c8 (dIx (c9 0) (dC (.int 2))) de))))
 dj)
 (dSq (dIf [] (dg (dl .In (dIx (c9 0) (dC (.int 0))) (dJ (c8 (dC (.str "power")) (c8 (dC (.str "again")) de)))))
 (dq [] (dO (c8 (dIx (c9 0) (dC (.int 1))) de)))
 dj)
 (dq [] (dO de))))
abbrev zX:List Str:=["plus", "minus", "times", "of"]
abbrev Bx:List Str:=["power", "again"]
theorem e8:Does 1 fR d9:=by
 rintro ds Q hn ⟨t,rfl,q⟩;cases t with
 | x=>exact⟨jy (n:=4) (by decide),jY (z := "x") (zs:=zX) (b:=false) (by decide) ⟨jy (n:=2) (by decide),jY (z := "x") (zs:=Bx) (b:=false) (by decide) ⟨vL,q _ rfl⟩⟩⟩
 | num a b=>exact⟨jy (n:=4) (by decide),jY (z := "number") (zs:=zX) (b:=false) (by decide) ⟨jy (n:=2) (by decide),jY (z := "number") (zs:=Bx) (b:=false) (by decide) ⟨vL,q _ rfl⟩⟩⟩
 | name n=>exact⟨jy (n:=4) (by decide),jY (z := "name") (zs:=zX) (b:=false) (by decide) ⟨jy (n:=2) (by decide),jY (z := "name") (zs:=Bx) (b:=false) (by decide) ⟨vL,q _ rfl⟩⟩⟩
 | one g t k =>
  refine⟨jy (n:=4) (by decide),jY (z:=oZ g) (zs:=zX) (b:=false) (by cases g <;> decide) ?_⟩;exact⟨jy (n:=2) (by decide),jY (z:=oZ g) (zs:=Bx) (b:=true) (by cases g <;> decide) ⟨tP,q _ rfl⟩⟩
 | two o a b =>
  exact⟨jy (n:=4) (by decide),jY (z:=o.s) (zs:=zX) (b:=true) (by cases o <;> decide) ⟨pP,q _ rfl⟩⟩
theorem kD{a:TEd}{x y:Str}{c:TTd}{t r:TSd}{E:EndsD}{ss:SS}(ha:∀ K:D->Prop,K (.str x)->a.run ss K)(h:decide (x=y)=false)(q:r.run E ss):(dSq (dIf [] (eg (dg (dl .Eq a (dC (.str y)))) c) t dj) r).run E ss:=by
 refine ha _ ?_;show (fun k=>if k=true then c.run ss (fun b=>if b=true then t.run (E.to (r.run E)) ss else r.run E ss) else (if false=true then t.run (E.to (r.run E)) ss else r.run E ss)) (if false=true then !decide (x=y) else decide (x=y));rw [if_neg am,h];exact q
theorem vt{a:TEd}{x y:Str}{c:TTd}{t r:TSd}{E:EndsD}{ss:SS}(ha:∀ K:D->Prop,K (.str x)->a.run ss K)(h:decide (x=y)=true)(q:c.run ss fun b=>if b=true then t.run (E.to (r.run E)) ss else r.run E ss):(dSq (dIf [] (eg (dg (dl .Eq a (dC (.str y)))) c) t dj) r).run E ss:=by
 refine ha _ ?_;show (fun k=>if k=true then c.run ss (fun b=>if b=true then t.run (E.to (r.run E)) ss else r.run E ss) else (if false=true then t.run (E.to (r.run E)) ss else r.run E ss)) (if false=true then !decide (x=y) else decide (x=y));rw [if_neg am,h];exact q
theorem zG{ns:List Str}{s:Str}:((ns.map Sum.inr:List jb).any fun j=>decide (j=Sum.inr s))=decide (s∈ns):=by
 induction ns with
 | nil=>rfl
 | cons a ns ih =>
  rw [aH,bn,ih];by_cases e:a=s
  ·subst e;simp
  ·have:¬ (Sum.inr a:jb)=Sum.inr s:=fun z=>e (Sum.inr.inj z);rw [decide_eq_false this,Bool.false_or];have:(s∈a::ns)↔s∈ns:=by
    rw [ah];exact⟨fun h=>h.resolve_left fun z=>e z.symm,.inr⟩
   simp only [this]
theorem xR{ns:List Str}{f:Str->D}{s:Str}{neg:Bool}{Q:D->Prop}{b:Bool}(hb:decide (s∈ns)=b)(q:Q (.bl (if neg then !b else b))):oIn neg (.str s) (vD ns f) Q:=.inr (.inr (.inr (.inr ⟨s,ns.map Sum.inr,ns.map f,rfl,rfl,by rw [zG,hb];exact q⟩)))
theorem Ab{a b:TEd}{ns:List Str}{f:Str->D}{s:Str}{ss:SS}{W:Bool->Prop}(ha:∀ K:D->Prop,K (.str s)->a.run ss K)(hb:∀ K:D->Prop,K (vD ns f)->b.run ss K)(h:s∈ns)(q:W false):(dg (dl .NotIn a b)).run ss W:=by
 refine ha _ ?_;refine hb _ ?_;have h0:oIn true (.str s) (vD ns f) (fun d=>match d with | .bl k=>W k|_=>False):=xR (neg:=true) (b:=true) (decide_eq_true h) q;exact h0
theorem BP{a b:TEd}{ns:List Str}{f:Str->D}{s:Str}{ss:SS}{W:Bool->Prop}(ha:∀ K:D->Prop,K (.str s)->a.run ss K)(hb:∀ K:D->Prop,K (vD ns f)->b.run ss K)(h:s ∉ ns)(q:W false):(dg (dl .In a b)).run ss W:=by
 refine ha _ ?_;refine hb _ ?_;have h0:oIn false (.str s) (vD ns f) (fun d=>match d with | .bl k=>W k|_=>False):=xR (neg:=false) (b:=false) (decide_eq_false h) q;exact h0
def dw(m:Nat):SpB:=.of 2 (α:=Tm×List Str×(Str->Nat)) (fun (t,ns,e) ds=>ds=[t.d,eN ns e]/\t.Ok ns/\t.ht<=m) (fun _ d=>d = .non)
def gD(m:Nat):TSd:=(eE [] (dU (dh d9 (c8 (c9 0) de))) (gNm 2)
 (dDo [] (dh (dw m) (c8 (c9 2) (c8 (c9 1) de)))))
def e9(m:Nat):TSd:=dSq (dIf [] (eg (dg (dl .Eq (dIx (c9 0) (dC (.int 0))) (dC (.str "name")))) (dg (dl .NotIn (dIx (c9 0) (dC (.int 1))) (c9 1))))
 d7
 dj) (gD m)
theorem dr(m:Nat):Does 3 (e9 m) (dw (m+1)):=by
 rintro ds Q hn ⟨⟨t,ns,e⟩,⟨rfl,ok,hm⟩,q⟩;dsimp only at q ok hm;have q:=q _ rfl;have rest:(gD m).run (jA Q) [.val t.d,.val (eN ns e),.no]:=by
  refine⟨rfl,t,rfl,?_⟩;rintro _ rfl;refine sN _ ⟨fun j s=>∃ o,s=[.val t.d,.val (eN ns e),o],⟨_,rfl⟩,?_,fun _ ⟨o,e⟩=>by subst e;exact q⟩;rintro j d _ hd ⟨o,rfl⟩;rw [aA] at hd;obtain⟨u,hu,rfl⟩:=aa.mp hd;have hm':=aF hu;have um:=t.inn_ht hm';refine⟨rfl,(u,ns,e),⟨rfl,t.inn_ok ok hm',by show u.ht<=m;omega⟩,?_⟩;rintro _ rfl;exact⟨.val u.d,rfl⟩
 cases t with
 | name n=>exact vt (x := "name") (fun K k=>k) (by decide) (Ab (s:=n) (fun K k=>k) (fun K k=>k) ok rest)
 | x=>exact kD (x := "x") (fun K k=>k) (by decide) rest
 | num a b=>exact kD (x := "number") (fun K k=>k) (by decide) rest
 | one g u k=>exact kD (x:=oZ g) (fun K k=>k) (by cases g <;> decide) rest
 | two w a b=>exact kD (x:=w.s) (fun K k=>k) (by cases w <;> decide) rest
def eB:SpB:=.of 2 (α:=Nat×Nat×Nat) (fun (a,k,b) ds=>ds=[.int (a:Nat),.int (k:Nat)]/\a<2^b/\k<=6/\b<=10000000) (fun (a,k,_) d=>d = .int ((max k (a^k):Nat):Int))
def fS:TSd:=(dSq (du [] (gNm 2) (dC (.int 1)))
 (dSq (eE [] (fH (c9 1)) (gNm 3)
 (ik [] 2 .Mult (c9 0)))
 (dq [] (dB bMax bMax.mono (c8 (c9 1) (c8 (c9 2) de))))))
theorem fb:Does 4 fS eB:=by
 rintro ds Q hn ⟨⟨a,k,b⟩,⟨rfl,ha,hk,hb⟩,q⟩;dsimp only at q hk hb ha;refine⟨by show -(2^62)<=(k:Int);omega,by show (k:Int)<2^62;omega,?_⟩;show ∃ _,_;refine⟨fun j s=>∃ o,s=[.val (.int a),.val (.int k),.val (.int ((a^j:Nat):Int)),o],⟨_,rfl⟩,?_,?_⟩
 ·rintro j d _ hd ⟨o,rfl⟩;obtain⟨hj,rfl⟩:=j3 hd;have hj6:j<=6:=by rw [aI] at hj;omega
  have hbj:b*j<=b*6:=aK b hj6;refine⟨⟨_,_,i4 (nB ha j),i4 ha,by omega⟩,.val (.int (0+(j:Nat))),?_⟩;rw [aU,bv];rfl
 ·rintro _ ⟨o,rfl⟩;rw [jp,aI];show Q (.int (if ((a^k:Nat):Int) > (k:Int) then ((a^k:Nat):Int) else (k:Int)));have em:(if ((a^k:Nat):Int) > (k:Int) then ((a^k:Nat):Int) else (k:Int))=((max k (a^k):Nat):Int):=by
   split <;> omega
  rw [em];exact q _ rfl
theorem jQ{e:Str->Nat}(he:∀ s,1<=e s):∀ t:Tm,1<=jf e t
 | .x=>ai _
 | .num _ _=>ai _
 | .name n=>he n
 | .one false t k=>by
  show 1<=if 0<k then jf e t*k else 1;split
  ·exact Nat.mul_pos (jQ he t) (by assumption)
  ·exact ai _
 | .one true t k=>by
  show 1<=if 0<k then max k (jf e t^k) else 1;split <;> omega
 | .two .times a b=>by show 1<=jf e a+jf e b;have:=jQ he a;omega
 | .two .of a b=>Nat.mul_pos (jQ he a) (jQ he b)
 | .two .plus a b=>aT _ _
 | .two .minus a b=>aT _ _
theorem vS(rows:List (Str×Tm)):∀ s,1<=kL rows s:=by
 have:∀(rows:List (Str×Tm)) (e0:Str->Nat),(∀ s,1<=e0 s)->∀ s,1<=rows.foldl (fun e r s=>if s=r.1 then jf e r.2 else e s) e0 s:=fun rows=>by
  induction rows with
  | nil=>exact fun e0 h=>h
  | cons r rows ih =>
   intro e0 h;refine ih _ fun s=>?_;dsimp only;split
   ·exact jQ h r.2
   ·exact h s
 exact this rows _ fun _=>ai _
theorem rc{a b M:Nat}{Q:D->Prop}(hM:M=max a b)(q:Q (.int (M:Nat))):bMax [.lst [.int (a:Nat),.int (b:Nat)]] Q:=by
 refine⟨[(a:Int),(b:Int)],rfl,by simp,fun N hN hl'=>?_⟩;have h1:=hl' a (by simp);have h2:=hl' b (by simp);have:N=(M:Int):=by
  simp at hN;omega
 rw [this];exact q
theorem oV{z:Str}{zs:List Str}{a:TEd}{t r:TSd}{E:EndsD}{ss:SS}{es:TAd}(hs:∀ K:List D->Prop,K (zs.map .str)->es.run ss K)(hz:zs.length<=100)(ha:∀ K:D->Prop,K (.str z)->a.run ss K)(hb:decide (z∈zs)=false)(q:r.run E ss):(dSq (dIf [] (dg (dl .In a (dJ es))) t dj) r).run E ss:=by
 refine ha _ ?_;refine hs _ ⟨jy (by rw [aj];omega),?_⟩;exact jY (z:=z) (zs:=zs) (b:=false) hb q
theorem uT{z:Str}{zs:List Str}{a:TEd}{t r:TSd}{E:EndsD}{ss:SS}{es:TAd}(hs:∀ K:List D->Prop,K (zs.map .str)->es.run ss K)(hz:zs.length<=100)(ha:∀ K:D->Prop,K (.str z)->a.run ss K)(hb:decide (z∈zs)=true)(q:t.run (E.to (r.run E)) ss):(dSq (dIf [] (dg (dl .In a (dJ es))) t dj) r).run E ss:=by
 refine ha _ ?_;refine hs _ ⟨jy (by rw [aj];omega),?_⟩;exact jY (z:=z) (zs:=zs) (b:=true) hb q
def fi:SpB:=.of 3 (α:=Tm×List Str×(Str->Nat)) (fun (t,ns,e) ds=>ds=[t.d,.lst (t.inn.map fun u=>.int (jf e u:Nat)),eN ns e]/\t.Ok ns/\t.ht<=7/\(∀ s∈ns,e s<=24)/\∀ s,1<=e s) (fun (t,_,e) d=>d = .int (jf e t:Nat))
def fc:TSd:=(dSq (dIf [] (dg (dl .In (c9 3) (dJ (c8 (dC (.str "plus")) (c8 (dC (.str "minus")) de)))))
 (dq [] (dB bMax bMax.mono (c8 (c9 1) de)))
 dj)
 (dSq (dIf [] (dg (dl .Eq (c9 3) (dC (.str "times"))))
 (dq [] (dm .Add (dIx (c9 1) (dC (.int 0))) (dIx (c9 1) (dC (.int 1)))))
 dj)
 (dSq (dIf [] (dg (dl .Eq (c9 3) (dC (.str "of"))))
 (dq [] (dm .Mult (dIx (c9 1) (dC (.int 0))) (dIx (c9 1) (dC (.int 1)))))
 dj)
 (dSq (dIf [] (eg (dg (dl .Eq (c9 3) (dC (.str "power")))) (dg (dl .Gt (dIx (c9 0) (dC (.int 2))) (dC (.int 0)))))
 (dq [] (dm .Mult (dIx (c9 1) (dC (.int 0))) (dIx (c9 0) (dC (.int 2)))))
 dj)
 (dSq (dIf [] (dg (dl .Eq (c9 3) (dC (.str "again"))))
 (dq [] (dh eB (c8 (dIx (c9 1) (dC (.int 0))) (c8 (dIx (c9 0) (dC (.int 2))) de))))
 dj)
 (dq [] (dC (.int 1))))))))
def gP:TSd:=dSq (du [] (gNm 3) (dIx (c9 0) (dC (.int 0)))) (dSq (dIf [] (dg (dl .Eq (c9 3) (dC (.str "name"))))
 (dq [] (dIx (c9 2) (dIx (c9 0) (dC (.int 1)))))
 dj) fc)
abbrev xX:List Str:=["plus", "minus"]
theorem fT:Does 4 gP fi:=by
 rintro ds Q hn ⟨⟨t,ns,e⟩,⟨rfl,ok,h7,he,h1⟩,q⟩;dsimp only at q ok h7 he h1;have q:=q _ rfl;have hb:∀ u:Tm,u.Ok ns->u.ht<t.ht->jf e u<2^233280:=fun u uo ul=>ak (lU he uo) (p2 (az (aK 5 (aG (by decide:0<6) (show u.ht<=6 by omega))) (by decide)));cases t with
 | name n =>
  have h0:(dSq (dIf [] (dg (dl .Eq (c9 3) (dC (.str "name"))))
 (dq [] (dIx (c9 2) (dIx (c9 0) (dC (.int 1)))))
 dj) fc).run (jA Q) [.val (Tm.name n).d,.val (.lst []),.val (eN ns e),.val (.str "name")]:=jF (x := "name") (fun K k=>k) (by decide) (qv ok q)
  exact h0
 | x =>
  show (dSq (dIf [] (dg (dl .Eq (c9 3) (dC (.str "name"))))
 (dq [] (dIx (c9 2) (dIx (c9 0) (dC (.int 1)))))
 dj) fc).run (jA Q) [_,_,_,.val (.str "x")]
  exact iW (x := "x") (fun K k=>k) (by decide) (oV (z := "x") (zs:=xX) (fun K k=>k) (by decide) (fun K k=>k) (by decide) (iW (x := "x") (fun K k=>k) (by decide) (iW (x := "x") (fun K k=>k) (by decide) (kD (x := "x") (fun K k=>k) (by decide) (iW (x := "x") (fun K k=>k) (by decide) q)))))
 | num a b =>
  show (dSq (dIf [] (dg (dl .Eq (c9 3) (dC (.str "name"))))
 (dq [] (dIx (c9 2) (dIx (c9 0) (dC (.int 1)))))
 dj) fc).run (jA Q) [_,_,_,.val (.str "number")]
  exact iW (x := "number") (fun K k=>k) (by decide) (oV (z := "number") (zs:=xX) (fun K k=>k) (by decide) (fun K k=>k) (by decide) (iW (x := "number") (fun K k=>k) (by decide) (iW (x := "number") (fun K k=>k) (by decide) (kD (x := "number") (fun K k=>k) (by decide) (iW (x := "number") (fun K k=>k) (by decide) q)))))
 | two w a b =>
  have ha:=hb a ok.1 (aZ (aW _ _));have hB:=hb b ok.2 (aZ (aT _ _));have pa:=jQ h1 a;have pb:=jQ h1 b;show (dSq (dIf [] (dg (dl .Eq (c9 3) (dC (.str "name"))))
 (dq [] (dIx (c9 2) (dIx (c9 0) (dC (.int 1)))))
 dj) fc).run (jA Q) [_,_,_,.val (.str w.s)]
  refine iW (x:=w.s) (fun K k=>k) (by cases w <;> decide) ?_;cases w with
  | plus=>exact uT (z := "plus") (zs:=xX) (fun K k=>k) (by decide) (fun K k=>k) (by decide) (rc (M:=max (max (jf e a) (jf e b)) 1) (by omega) q)
  | minus=>exact uT (z := "minus") (zs:=xX) (fun K k=>k) (by decide) (fun K k=>k) (by decide) (rc (M:=max (max (jf e a) (jf e b)) 1) (by omega) q)
  | times =>
   have q:Q (.int ((jf e a+jf e b:Nat):Int)):=q;rw [cs] at q;exact oV (z := "times") (zs:=xX) (fun K k=>k) (by decide) (fun K k=>k) (by decide) (jF (x := "times") (fun K k=>k) (by decide) q)
  | of =>
   have q:Q (.int ((jf e a*jf e b:Nat):Int)):=q;rw [bv] at q;exact oV (z := "of") (zs:=xX) (fun K k=>k) (by decide) (fun K k=>k) (by decide) (iW (x := "of") (fun K k=>k) (by decide) (jF (x := "of") (fun K k=>k) (by decide) ⟨⟨_,_,i4 ha,i4 hB,by decide⟩,q⟩))
 | one g u k =>
  have hu:=hb u ok.1 (bp _);have hk:=ok.2;have lk:Lt2 4 (k:Int):=i4 (aQ hk (by decide));show (dSq (dIf [] (dg (dl .Eq (c9 3) (dC (.str "name"))))
 (dq [] (dIx (c9 2) (dIx (c9 0) (dC (.int 1)))))
 dj) fc).run (jA Q) [_,_,_,.val (.str (oZ g))]
  refine iW (x:=oZ g) (fun K k=>k) (by cases g <;> decide) ?_;refine oV (z:=oZ g) (zs:=xX) (fun K k=>k) (by decide) (fun K k=>k) (by cases g <;> decide) ?_;refine iW (x:=oZ g) (fun K k=>k) (by cases g <;> decide) (iW (x:=oZ g) (fun K k=>k) (by cases g <;> decide) ?_);cases g with
  | false =>
   refine vt (x := "power") (fun K k=>k) (by decide) ?_;have q:Q (.int ((if 0<k then jf e u*k else 1:Nat):Int)):=q;refine oX (p:=(0:Int)<(k:Int)) (fun c=>?_) (fun c=>?_)
   ·rw [if_pos (by omega),bv] at q;exact⟨⟨_,_,i4 hu,lk,by decide⟩,q⟩
   ·rw [if_neg (by omega)] at q;exact iW (x := "power") (fun K k=>k) (by decide) q
  | true =>
   refine kD (x := "again") (fun K k=>k) (by decide) (jF (x := "again") (fun K k=>k) (by decide) ⟨rfl,(jf e u,k,233280),⟨rfl,hu,hk,by decide⟩,?_⟩);rintro _ rfl;have q:Q (.int ((if 0<k then max k (jf e u^k) else 1:Nat):Int)):=q;by_cases c:0<k
   ·rw [if_pos c] at q;exact q
   ·have:k=0:=by omega
    subst this;exact q
theorem sR{t u p:Tm}(h:u∈t.inn)(hp:p∈u.parts):p∈t.parts:=by
 rw [t.parts_eq];exact ar _ (List.mem_flatMap.mpr ⟨u,h,hp⟩)
def dF(m:Nat):SpB:=.of 3 (α:=Tm×List Str×(Str->Nat)×Str) (fun (t,ns,e,r) ds=>ds=[t.d,eN ns e,.str r]/\t.Ok ns/\t.ht<=m/\t.ht<=7/\(∀ s∈ns,e s<=24)/\(∀ s,1<=e s)/\∀ p∈t.parts,jf e p<=24) (fun (t,_,e,_) d=>d = .int (jf e t:Nat))
def fF(m:Nat):TSd:=(dSq (du [] (gNm 3) (eh (dU (dh d9 (c8 (c9 0) de))) [4] (gNm 4) gv (dh (dF m) (c8 (c9 4) (c8 (c9 1) (c8 (c9 2) de))))))
 (dSq (du [] (gNm 5) (dh fi (c8 (c9 0) (c8 (c9 3) (c8 (c9 1) de)))))
 (dSq (dIf [] (dg (dl .Gt (c9 5) (dC (.int 24))))
 d7
 dj)
 (dq [] (c9 5)))))
theorem dA(m:Nat):Does 6 (fF m) (dF (m+1)):=by
 rintro ds Q hn ⟨⟨t,ns,e,r⟩,⟨rfl,ok,hm,h7,he,h1,hp⟩,q⟩;dsimp only at q ok hm h7 he h1 hp;refine⟨rfl,t,rfl,?_⟩;rintro _ rfl;refine sN _ (km (fun i y=>∀ u,t.inn[i]? = some u->y = .int (jf e u:Nat)) ?_ (fun i d hd=>?_) fun ys l hw=>?_)
 ·rw [aj];have:=t.inn_len;omega
 ·rw [aA] at hd;obtain⟨u,hu,rfl⟩:=aa.mp hd;have hm':=aF hu;have um:=t.inn_ht hm';refine⟨rfl,(u,ns,e,r),⟨rfl,t.inn_ok ok hm',by show u.ht<=m;omega,by show u.ht<=7;omega,he,h1,fun p h=>hp p (sR hm' h)⟩,?_⟩;rintro _ rfl u' hu';rw [hu] at hu';cases hu';rfl
 ·have e0:ys=t.inn.map fun u=>.int (jf e u:Nat):=tG (by rw [l,aj]) fun i y hy u hu=>hw i y hy u hu;subst e0;refine⟨rfl,(t,ns,e),⟨rfl,ok,h7,he,h1⟩,?_⟩;rintro _ rfl;have ht:=hp t (by rw [t.parts_eq];exact av);refine oX (p:=(24:Int)<(jf e t:Nat)) (fun c=>by omega) (fun c=>q _ rfl)
end Dp
namespace Dp
open PySem L2
variable{P:Program}{w:World}{K:Frag}{mg:Str->Option Value}{base:Heap}
def jP(K:Frag)(n:Nat):Sp:=fun vs H Q _=>∃(d:DV) (x y:V),vs=[x,y]/\Rep K H d x/\Rep K H d y/\d.dp<n/\d.wd<=100000/\∀ H',Same H H'->Q (.bl true) H'
def dD(n:Nat):SpB:=.of 2 (α:=D) (fun d ds=>ds=[d,d]/\d.pl=true/\d.dp<n/\d.dv.wd<=100000) (fun _ r=>r = .bl true)
theorem qF{n k:Nat}{ps:List Str}(g:Def P w K mg base "_law_alike" k ps (jP K n)):Def P w K mg base "_law_alike" k ps (ms K (dD n).n (dD n).run):=by
 obtain⟨f,fd,F,r⟩:=g.ex;refine⟨f,fd,F.imp (fun vs H Q E h=>?_),r⟩;obtain⟨hn,f,O,ds,fl,fO,al,lO,rp,d,⟨rfl,hp,hd,hw⟩,q⟩:=h;obtain⟨v,v',rfl,e1,e2⟩:=Rps.two rp;exact⟨d.dv,v,v',rfl,Rp.rep hp e1,Rp.rep hp e2,by rw [D.dv_dp];exact hd,hw,fun H' s=>q (.bl true) rfl _ H' ⟨s.sm,fl.same s⟩ rfl⟩
end Dp
namespace Dp
open PySem L2
@[reducible] def Cz(i:Nat)(Q:D->Prop):EndsD:=⟨fun ss=>∃ kvs,ss[i]? = some (.odc kvs)/\Q (OB.dc kvs).toD,fun _=>False,fun _=>False,fun _=>False⟩
def vy(n:Nat)(t:TSd)(i:Nat)(s:SpB):Prop:=∀ ds Q,ds.length=s.n->s.run ds Q->t.run (Cz i Q) (startD n ds)
theorem uZ{α β:Type}:∀{l m:List (α×β)},l.map (·.1)=m.map (·.1)->l.map (·.2)=m.map (·.2)->l=m
 | [],[],_,_=>rfl
 | [],_::_,h,_=>by cases h
 | _::_,[],h,_=>by cases h
 | (a,b)::l,(c,d)::m,h,g=>by
  injection h with h1 h2;injection g with g1 g2;cases h1;cases g1;rw [uZ h2 g2]
theorem zu{l m:List (jb×D)}(h:(OB.dc l).toD=(OB.dc m).toD):l=m:=by
 injection h with h1 h2;exact uZ h1 h2
end Dp
namespace Dp
open PySem L2
theorem RowsOk.pre{rows:List (Str×Tm)}(h:RowsOk rows):∀(j:Nat) (n:Str) (t:Tm),rows[j]? = some (n,t)->RowsOk (rows.take j)/\n ∉ jX (rows.take j)/\t.Ok (jX (rows.take j))/\t.ht<=6/\jG (kL (rows.take j)) (qm (rows.take j)) t=true:=by
 induction h with
 | nil=>intro j n t e;cases e
 | @snoc rows n t r n1 n2 n3 ok ht l ih =>
  intro j n' t' e;rcases bO j rows.length with c|c
  ·rw [ba c] at e;rw [List.take_append_of_le_length (a6 c)];exact ih j n' t' e
  ·rw [bz c] at e;have e0:j-rows.length=0:=by
    have:=(aq.mp e).1;simp at this;omega
   rw [e0] at e;cases e;have:j=rows.length:=by omega
   subst this;rw [List.take_left];exact⟨r,n1,ok,ht,l⟩
theorem yf{rows:List (Str×Tm)}{j:Nat}{n:Str}{t:Tm}(h:rows[j]? = some (n,t)):rows.take (j+1)=rows.take j++[(n,t)]:=by
 rw [List.take_succ,h];rfl
theorem uJ{e:Str->Nat}{h:Str->Nat×Nat}{t:Tm}(l:jG e h t=true):∀ p∈t.parts,jf e p<=24:=fun p hp=>by
 have:=aP.mp l p hp;rw [aC] at this;exact of_decide_eq_true this.1
abbrev jR(rows:List (Str×Tm)):List (jb×D):=sL (jX rows) fun s=>.int (kL rows s:Nat)
theorem rcK_d{rows:List (Str×Tm)}:(OB.dc (jR rows)).toD=eN (jX rows) (kL rows):=oR
theorem qP{rows:List (Str×Tm)}{j:Nat}{n:Str}{t:Tm}(h:rows[j]? = some (n,t))(nn:n ∉ jX (rows.take j)):oH (jR (rows.take j)) (Sum.inr n) (.int (jf (kL (rows.take j)) t:Nat))=jR (rows.take (j+1)):=by
 have k1:=nS (f:=fun s=>D.int (kL (rows.take j) s:Nat)) (g:=fun s=>D.int (kL (rows.take j++[(n,t)]) s:Nat)) (d:=.int (jf (kL (rows.take j)) t:Nat)) nn (fun s hs=>congrArg (fun x:Nat=>D.int x) (nY fun e=>nn (e ▸ hs))) (congrArg (fun x:Nat=>D.int x) nZ);rw [k1,yf h];unfold jR;rw [show jX (rows.take j++[(n,t)])=jX (rows.take j)++[n] from aR]
theorem qQ{rows:List (Str×Tm)}{j:Nat}(l:rows.length<=6):(jR (rows.take j)).length<sizeLine:=jy (by unfold jR sL;rw [aj,aj,a7];omega)
theorem qO{rows:List (Str×Tm)}{j:Nat}{d:D}(h:(rows.map kY)[j]? = some d):∃ n t,rows[j]? = some (n,t)/\d = .tup [.str n,t.d]:=by
 rw [aA] at h;obtain⟨⟨n,t⟩,h1,rfl⟩:=aa.mp h;exact⟨n,t,h1,rfl⟩
def en:SpB:=.of 1 (α:=List (Str×Tm)) (fun rows ds=>ds=[.tup (rows.map kY)]/\RowsOk rows/\rows.length<=6) (fun rows d=>d=eN (jX rows) (kL rows))
def gk:TSd:=(dSq (dDo [] (eF (dh (dw 6) (c8 (c9 3) (c8 (c9 1) de)))))
 (et 1 (c9 2) (eF (dh (dF 6) (c8 (c9 3) (c8 (c9 1) (c8 (c9 2) de)))))))
def iM:TSd:=dSq (fI [1] (dg (dl .In (c9 2) (c9 1)))
 d7
 dj) gk
theorem B4{rows:List (Str×Tm)}{j:Nat}{n:Str}{t:Tm}{X:D}{E:EndsD}(ro:RowsOk rows)(l:rows.length<=6)(h:rows[j]? = some (n,t))(q:E.nx [.val X,.odc (jR (rows.take (j+1))),.val (.str n),.val t.d]):iM.run E [.val X,.odc (jR (rows.take j)),.val (.str n),.val t.d]:=by
 obtain⟨r1,nn,ok,ht,li⟩:=ro.pre j n t h;have lim:=r1.lim.1;suffices go:gk.run E [.val X,.odc (jR (rows.take j)),.val (.str n),.val t.d] by
  have h0:=BP (a:=c9 2) (b:=c9 1) (s:=n) (ns:=jX (rows.take j)) (f:=fun s=>.int (kL (rows.take j) s:Nat)) (ss:=frz [1] [.val X,.odc (jR (rows.take j)),.val (.str n),.val t.d]) (W:=fun b=>if b=true then d7.run (E.to (gk.run E)) [.val X,.odc (jR (rows.take j)),.val (.str n),.val t.d] else gk.run E [.val X,.odc (jR (rows.take j)),.val (.str n),.val t.d]) (fun K k=>k) (fun K k=>by
   show K (OB.dc (jR (rows.take j))).toD;rw [rcK_d];exact k) nn go
  exact h0
 refine⟨rfl,(t,jX (rows.take j),kL (rows.take j)),⟨congrArg (fun z=>[t.d,z]) rcK_d,ok,ht⟩,?_⟩;rintro _ rfl;refine⟨rfl,?_⟩;refine⟨rfl,(t,jX (rows.take j),kL (rows.take j),n),⟨congrArg (fun z=>[t.d,z,.str n]) rcK_d,ok,ht,by show t.ht<=7;omega,lim,vS _,uJ li⟩,?_⟩;rintro _ rfl;refine⟨rfl,Sum.inr n,rfl,qQ l,?_⟩;rw [qP h nn];exact q
def iy:TSd:=(eE [] (dU (c9 0)) (gTp [2,3])
 (dSq (fI [1] (dg (dl .In (c9 2) (c9 1)))
 d7
 dj)
 (dSq (dDo [] (eF (dh (dw 6) (c8 (c9 3) (c8 (c9 1) de)))))
 (et 1 (c9 2) (eF (dh (dF 6) (c8 (c9 3) (c8 (c9 1) (c8 (c9 2) de)))))))))
def gQ:TSd:=dSq (f6 1) iy
def hV:TSd:=(dSq (f6 1)
 (dSq (eE [] (dU (c9 0)) (gTp [2,3])
 (dSq (fI [1] (dg (dl .In (c9 2) (c9 1)))
 d7
 dj)
 (dSq (dDo [] (eF (dh (dw 6) (c8 (c9 3) (c8 (c9 1) de)))))
 (et 1 (c9 2) (eF (dh (dF 6) (c8 (c9 3) (c8 (c9 1) (c8 (c9 2) de)))))))))
 (dq [1] (c9 1))))
theorem Au{rows:List (Str×Tm)}{o2 o3:SD}{E:EndsD}(ro:RowsOk rows)(l:rows.length<=6)(q:∀ o2 o3,E.nx [.val (.tup (rows.map kY)),.odc (jR rows),o2,o3]):iy.run E [.val (.tup (rows.map kY)),.odc [],o2,o3]:=by
 refine⟨fun j s=>∃ o2 o3,s=[.val (.tup (rows.map kY)),.odc (jR (rows.take j)),o2,o3],⟨_,_,rfl⟩,?_,?_⟩
 ·rintro j d _ hd ⟨o2,o3,rfl⟩;obtain⟨n,t,h,rfl⟩:=qO hd;exact⟨rfl,B4 ro l h ⟨_,_,rfl⟩⟩
 ·rintro _ ⟨o2,o3,rfl⟩;rw [aj,bH];exact q o2 o3
theorem fU:vy 4 gQ 1 en:=by
 rintro ds Q hn ⟨rows,⟨rfl,ro,l⟩,q⟩;exact Au ro l fun o2 o3=>⟨jR rows,rfl,by rw [rcK_d];exact q _ rfl⟩
theorem gm:Does 4 hV en:=by
 rintro ds Q hn ⟨rows,⟨rfl,ro,l⟩,q⟩;refine Au (o2:=.no) (o3:=.no) ro l fun o2 o3=>?_;show Q (OB.dc (jR rows)).toD;rw [rcK_d];exact q _ rfl
end Dp
namespace Dp
open PySem L2
abbrev zQ(ns:List Str)(f:Str->Nat):D:=.lst (ns.map fun s=>.tup [.str s,.int (f s:Nat)])
theorem ut{ns:List Str}{f:Str->D}:pairs (ns.map Sum.inr) (ns.map f)=ns.map fun s=>.tup [.str s,f s]:=by
 induction ns with
 | nil=>rfl
 | cons a ns ih =>
  show D.tup [.str a,f a]::pairs (ns.map Sum.inr) (ns.map f)=_;rw [ih];rfl
theorem uN{rows:List (Str×Tm)}:D.lst (pairs ((jR rows).map (·.1)) ((jR rows).map (·.2)))=zQ (jX rows) (kL rows):=by
 have h:=rcK_d (rows:=rows);injection h with h1 h2;rw [h1,h2,ut]
theorem rh{f:Str->Nat}:∀ ns:List Str,D.pls (ns.map fun s=>D.tup [.str s,.int (f s:Nat)])=true
 | []=>rfl
 | a::ns=>rh ns
theorem rj{f:Str->Nat}:∀ ns:List Str,D.dps (ns.map fun s=>D.tup [.str s,.int (f s:Nat)])<=1
 | []=>aS _
 | a::ns=>by
  show max 1 (D.dps (ns.map fun s=>D.tup [.str s,.int (f s:Nat)]))<=1;exact cU.mpr ⟨ai _,rj ns⟩
theorem rg{f:Str->Nat}:∀ ns:List Str,DV.wds (D.dvs (ns.map fun s=>D.tup [.str s,.int (f s:Nat)]))<=2
 | []=>by show DV.wds []<=2;unfold DV.wds;omega
 | a::ns=>by
  show DV.wds (DV.tup [.str a,.int (f a:Nat)]::D.dvs (ns.map fun s=>D.tup [.str s,.int (f s:Nat)]))<=2;unfold DV.wds;refine cU.mpr ⟨?_,rg ns⟩;simp [DV.wd,DV.wds]
theorem rG:∀ l:List D,(D.dvs l).length=l.length
 | []=>rfl
 | _::l=>congrArg Nat.succ (rG l)
theorem zc{ns:List Str}{f:Str->Nat}{Q:D->Prop}(h:ns.length<=6)(q:Q (.bl true)):[zQ ns f,zQ ns f].length=(dD 3).n/\(dD 3).run [zQ ns f,zQ ns f] Q:=by
 refine⟨rfl,zQ ns f,⟨rfl,?_,?_,?_⟩,fun _ e=>e ▸ q⟩
 ·exact rh ns
 ·show D.dps (ns.map fun s=>D.tup [.str s,.int (f s:Nat)])+1<3;have:=rj (f:=f) ns;omega
 ·show (DV.lst (D.dvs (ns.map fun s=>D.tup [.str s,.int (f s:Nat)]))).wd<=100000;unfold DV.wd;have:=rg (f:=f) ns;have:=rG (ns.map fun s=>D.tup [.str s,.int (f s:Nat)]);rw [aj] at this;omega
def dQ:SpB:=.of 1 (α:=List (Str×Tm)) (fun rows ds=>ds=[.tup (rows.map kY)]/\RowsOk rows/\rows.length<=6) (fun _ d=>d = .bl true)
def iz:TSd:=(et 1 (c9 2) (eF (dh (dG 6) (c8 (c9 3) (c8 (c9 1) de)))))
theorem y2{rows:List (Str×Tm)}{j:Nat}{n:Str}{t:Tm}{X:D}{o4:SD}{E:EndsD}(ro:RowsOk rows)(l:rows.length<=6)(h:rows[j]? = some (n,t))(q:E.nx [.val X,.odc (jR (rows.take (j+1))),.val (.str n),.val t.d,o4]):iz.run E [.val X,.odc (jR (rows.take j)),.val (.str n),.val t.d,o4]:=by
 obtain⟨r1,nn,ok,ht,li⟩:=ro.pre j n t h;refine⟨rfl,(t,jX (rows.take j),kL (rows.take j)),⟨congrArg (fun z=>[t.d,z]) rcK_d,ok,ht,by show t.ht<=7;omega,r1.lim.1⟩,?_⟩;rintro _ rfl;refine⟨rfl,Sum.inr n,rfl,qQ l,?_⟩;rw [qP h nn];exact q
def gE:TSd:=(dq [1] (dl .Eq (dh en (c8 (c9 0) de)) (c9 1)))
def fG:TSd:=dSq (gy 4) gE
def gF:TSd:=dSq (fI [1,4] (eQ (eI (fj (ig .dict (c9 4)))) (eI (fj (dh (dD 3) (c8 (eZ (c9 4)) (c8 (eZ (c9 1)) de))))))
 (dq [] (dC (.bl false)))
 dj) fG
def iA:TSd:=dSq (il 4 (dh en (c8 (c9 0) de))) gF
def iB:TSd:=dSq (eE [] (dU (c9 0)) (gTp [2,3])
 (et 1 (c9 2) (eF (dh (dG 6) (c8 (c9 3) (c8 (c9 1) de)))))) iA
def fW:TSd:=dSq (f6 1) iB
theorem y4{rows:List (Str×Tm)}{o2 o3 o4:SD}{Q:D->Prop}(ro:RowsOk rows)(l:rows.length<=6)(q:Q (.bl true)):gE.run (jA Q) [.val (.tup (rows.map kY)),.odc (jR rows),o2,o3,o4]:=by
 refine⟨rfl,rows,⟨rfl,ro,l⟩,?_⟩;rintro _ rfl;have h0:oEq false (eN (jX rows) (kL rows)) (OB.dc (jR rows)).toD Q:=by
  rw [rcK_d];exact⟨rfl,rfl,rfl,⟨(jX rows).map fun s=>((kL rows s:Nat):Int),by
   generalize jX rows=ns;rw [ce];rfl⟩,q⟩
 exact h0
theorem y6{rows:List (Str×Tm)}{o2 o3:SD}{Q:D->Prop}(ro:RowsOk rows)(l:rows.length<=6)(q:Q (.bl true)):gF.run (jA Q) [.val (.tup (rows.map kY)),.odc (jR rows),o2,o3,.odc (jR rows)]:=by
 have h1:([D.lst (pairs ((jR rows).map (·.1)) ((jR rows).map (·.2))),D.lst (pairs ((jR rows).map (·.1)) ((jR rows).map (·.2)))].length=(dD 3).n/\(dD 3).run [D.lst (pairs ((jR rows).map (·.1)) ((jR rows).map (·.2))),D.lst (pairs ((jR rows).map (·.1)) ((jR rows).map (·.2)))] fun d=>truD d fun k=>if (!k)=true then ((dq [] (dC (.bl false)))).run ((jA Q).to (fG.run (jA Q))) [.val (.tup (rows.map kY)),.odc (jR rows),o2,o3,.odc (jR rows)] else fG.run (jA Q) [.val (.tup (rows.map kY)),.odc (jR rows),o2,o3,.odc (jR rows)]):=by
  rw [uN];exact zc (by rw [aj];exact l) (y4 ro l q)
 exact h1
theorem fg:Does 5 fW dQ:=by
 rintro ds Q hn ⟨rows,⟨rfl,ro,l⟩,q⟩;have q:=q _ rfl;refine⟨fun j s=>∃ o2 o3,s=[.val (.tup (rows.map kY)),.odc (jR (rows.take j)),o2,o3,.no],⟨_,_,rfl⟩,?_,?_⟩
 ·rintro j d _ hd ⟨o2,o3,rfl⟩;obtain⟨n,t,h,rfl⟩:=qO hd;exact⟨rfl,y2 ro l h ⟨_,_,rfl⟩⟩
 ·rintro _ ⟨o2,o3,rfl⟩;rw [aj,bH];refine⟨rfl,rows,⟨rfl,ro,l⟩,?_⟩;rintro _ rfl;exact⟨jR rows,rcK_d.symm,y6 ro l q⟩
def hW:TSd:=(dq [] (g7 (dh dQ (c8 (c9 2) de)) (g7 (dh dQ (c8 (c9 3) de)) (dh dQ (c8 (c9 2) de)))))
def iJ:TSd:=dSq (du [] (gNm 2) (dh dR (c8 (c9 1) (c8 (dC (.int 6)) de)))) (dSq (du [] (gNm 3) (dh dR (c8 (c9 1) (c8 (dC (.int 6)) de)))) hW)
abbrev DE:EndsD:=⟨fun _=>False,fun d=>d = .bl true,fun _=>False,fun _=>False⟩
theorem rZ:iJ.run DE (.no :: .val .fl::List.replicate 2 .no):=by
 refine⟨rfl,(),rfl,?_⟩;rintro _ ⟨one,rfl,ro,ne,l6⟩;refine⟨rfl,(),rfl,?_⟩;rintro _ ⟨oth,rfl,ro',ne',l6'⟩;refine⟨rfl,one,⟨rfl,ro,l6⟩,?_⟩;rintro _ rfl;refine⟨rfl,oth,⟨rfl,ro',l6'⟩,?_⟩;rintro _ rfl;refine⟨rfl,one,⟨rfl,ro,l6⟩,?_⟩;rintro _ rfl;rfl
theorem pF(ds:List D)(Q:D->Prop):¬ (dE 0).run ds Q:=fun⟨_,h,_⟩=>Nat.not_lt_zero _ h.2.2.2
theorem oA(ds:List D)(Q:D->Prop):¬ (d8 0).run ds Q:=fun⟨t,h,_⟩=>by have:=t.ht_pos;have:=h.2.1;omega
theorem oz(ds:List D)(Q:D->Prop):¬ (dG 0).run ds Q:=fun⟨x,h,_⟩=>by have:=x.1.ht_pos;have:x.1.ht<=0:=h.2.2.1;omega
theorem pG(ds:List D)(Q:D->Prop):¬ (dX 0).run ds Q:=fun⟨x,h,_⟩=>by have:=x.1.ht_pos;have:x.1.ht<=0:=h.2.2.1;omega
theorem kU(ds:List D)(Q:D->Prop):¬ (dw 0).run ds Q:=fun⟨x,h,_⟩=>by have:=x.1.ht_pos;have:x.1.ht<=0:=h.2.2;omega
theorem lM(ds:List D)(Q:D->Prop):¬ (dF 0).run ds Q:=fun⟨x,h,_⟩=>by have:=x.1.ht_pos;have:x.1.ht<=0:=h.2.2.1;omega
end Dp
namespace Ds
section
open PySem L2 Dp
variable{X:Cx}
def bTb:List (Str×Bool×String×BB):=[("len",true, "len",⟨bLen,bLen.mono⟩),("abs",true, "abs",⟨bAbs,bAbs.mono⟩),("all",true, "all",⟨bAll,bAll.mono⟩),("max",true, "max",⟨bMax,bMax.mono⟩),("int",false, "int",⟨bInt,bInt.mono⟩),("tuple",false, "tuple",⟨bTuple,bTuple.mono⟩)]
def C9(x:Str):Option (Bool×String×BB):=bTb.lookup x
theorem zE{j:Nat}(hr:Room j X.A)(hc:X.calm=true)(B:Bl X.mg){x:Str}{k:Bool}{id:String}{o:BB}(h:C9 x=some (k,id,o)):X.mg x=none/\x ≠ "__name__" /\ (x == ("__debug__" : Str))=false/\(if k then bootBuiltins x=some (.builtin id)/\RB X (.builtin id) o.run else bootBuiltins x=some (.type id)/\RB X (.type id) o.run):=by
 have m:=i9 h;unfold bTb at m;rcases ah.mp m with e|m
 ·cases e;exact⟨B.len,by decide,by decide,ln,tX⟩
 rcases ah.mp m with e|m
 ·cases e;exact⟨B.abs,by decide,by decide,zA,yy⟩
 rcases ah.mp m with e|m
 ·cases e;exact⟨B.all,by decide,by decide,vo,yx hc⟩
 rcases ah.mp m with e|m
 ·cases e;exact⟨B.max,by decide,by decide,zz,yv hc⟩
 rcases ah.mp m with e|m
 ·cases e;exact⟨B.int,by decide,by decide,vn,yw⟩
 rcases ah.mp m with e|m
 ·cases e;exact⟨B.tuple,by decide,by decide,ka,tW⟩
 cases m
end
section
open PySem L2 Dp
variable{K:Frag}{Jx:Hp->Prop}{f:Addr}{O O':List Addr}{H H':Hp}{X:Cx}{σ:L2.St}{ss:SS}{a b:Expr}{ta tb tc:TEd}{tA tB:TTd}{pos:Pos}{c:Cs}
structure Xt where
 xi:List (Str×(Addr->Option Bool)):=[]
 xf:List (Str×(Addr->Bool)):=[]
 x0:List (Str×Addr):=[]
 xc:List (Str×Nat×Addr×Str):=[]
 gx:List (Str×Nat×Addr×SpX):=[]
 E:D->Prop:=fun _=>True
 lp:Bool:=true
 tab:List (Addr×Nat×SpX):=[]
 xm:List (Str×Addr×(Addr->Bool)):=[]
 xs:List (List Str×(Addr->Option Bool)):=[]
 gd:List (Str×Nat×SpB):=[]
def Xt.inn(t:Xt):Xt:={ t with gx:=[] }
structure XtOk (P:Program)(w:World)(K:Frag)(mg:Str->Option Value)(base:Heap)(t:Xt):Prop where
 xi:∀ y g,(y,g)∈t.xi->∃ c,((∃ a,c=Value.ref a/\mg y=some c)\/(∃ n,c=Value.type n/\mg y=none/\y ≠ "__name__" /\ bootBuiltins y=some c))/\∀ C k,g C=some k->∃ N cd,Xi K C N cd/\PySem.W.kitOne K (.ref C) c=some k
 xf:∀ x ok,(x,ok)∈t.xf->∀ C,ok C=true->∃ N cd,Ex8.Xc K C N cd/\lq K C x
 x0:∀ y C,(y,C)∈t.x0->mg y=some (.ref C)/\PySem.W.keepIn K (.ref C)=true/\∃ N,Ex8.lz K C N=true/\PySem.W.findIn K (.ref C) "__init__" = some (some (.builtin "ValueError.__init__"))
 xc:∀ y i C x,(y,i,C,x)∈t.xc->XDef P w K mg base y i C x
 gx:∀ x j g s,(x,j,g,s)∈t.gx->∃ ps,DefX P w K mg base x g j ps (tx K s)
 tab:∀ g j s,(g,j,s)∈t.tab->∃ x ps,DefX P w K mg base x g j ps (tx K s)
 xs:∀ ns g,(ns,g)∈t.xs->∃ as:List Addr,as.length<=100/\ns.map mg=as.map (fun a=>some (Value.ref a))/\∀ C k,g C=some k->∃ N cd,Xi K C N cd/\PySem.W.kitAny K (.ref C) (as.map Value.ref)=some k
 xm:∀ y Nc m,(y,Nc,m)∈t.xm->mg y=some (.ref Nc)/\∀ C,m C=true->PySem.W.exmOne K (.ref C) (.ref Nc)=some true
 gd:∀ x j s,(x,j,s)∈t.gd->∃ ps,Def P w K mg base x j ps (xq K s.n s.run)
theorem XtOk.no{P:Program}{w:World}{K:Frag}{mg:Str->Option Value}{base:Heap}:XtOk P w K mg base {}:=⟨fun _ _ h=>absurd h au,fun _ _ h=>absurd h au,fun _ _ h=>absurd h au,fun _ _ _ _ h=>absurd h au,fun _ _ _ _ h=>absurd h au,fun _ _ _ h=>absurd h au,fun _ _ h=>absurd h au,fun _ _ _ h=>absurd h au,fun _ _ _ h=>absurd h au⟩
structure Tc where
 N:List Str
 sc:Scope
 G:List (Str×Nat×SpB)
 gc:List (Str×D)
 k:Nat
 fz:List (Nat×List Nat):=[]
 own:List Nat:=[]
 mu:List Nat:=[]
 gn:List (Str×Nat×SpB):=[]
 xt:Xt:={}
def Tc.pk(T:Tc)(p:Pos):List Nat:=(T.fz.lookup (p.line+1000000)).getD []
def Tc.frz(T:Tc)(p:Pos):List Nat:=(T.fz.lookup p.line).getD []
def wL(x:Str):List Str->Option Nat
 | []=>none
 | y::r=>if x=y then some 0 else (wL x r).map (· + 1)
theorem nV{x:Str}:∀{N:List Str} {i:Nat},wL x N=some i->N[i]? = some x
 | [],_,h=>by cases h
 | y::r,i,h=>by
  unfold wL at h;by_cases e:x=y
  ·rw [if_pos e] at h;cases h;rw [e];rfl
  ·rw [if_neg e] at h;obtain⟨j,h1,rfl⟩:=aa.mp h;rw [bS];exact nV h1
def zR:Option NameKind->Bool
 | some .local=>true|some .cell=>true|some .free=>true|_=>false
def yX(x:Str):Bool:=!(x == ("__debug__" : Str)) && !(x == ("__classdict__" : Str))
def Tc.slot(T:Tc)(x:Str):Option Nat:=if zR (T.sc.names.lookup x) && yX x then wL x T.N else none
def Tc.isG(T:Tc)(x:Str):Bool:=(T.sc.names.lookup x == some .globalImplicit) && yX x
structure CtxOk (T:Tc)(X:Cx)(Jx:Hp->Prop):Prop where
 N:X.N=T.N
 nd:X.N.Nodup
 calm:X.calm=true
 room:Room T.k X.A
 vis:∀ x,zR (T.sc.names.lookup x)=true->xp X.env.scope x
 gl:∀ x,T.sc.names.lookup x=some .globalImplicit->Gl X x
 loc:∀ x,T.sc.names.lookup x=some .local->X.env.scope.names.lookup x=some .local
 cf:∀ x,(T.sc.names.lookup x=some .cell\/T.sc.names.lookup x=some .free)->(X.env.scope.names.lookup x=some .cell\/X.env.scope.names.lookup x=some .free)
 fn:∀ x j s,(x,j,s)∈T.G->∃ ps,Def X.prog X.w X.K X.mg X.base x j ps (ms X.K s.n s.run)
 gc:∀ x d,(x,d)∈T.gc->∃ v u,X.mg x=some u/\RelV v u/\∀ f O H,Rp X.K f O H d v
 bl:Bl X.mg
 cel:∀ x,T.sc.names.lookup x=some .cell->X.env.scope.names.lookup x=some .cell/\X.fn x=true
 gn:∀ x j s,(x,j,s)∈T.gn->∃ ps,Def X.prog X.w X.K X.mg X.base x j ps (tz X.K s.n s.run)
 xt:XtOk X.prog X.w X.K X.mg X.base T.xt
 px:T.xt.gx≠[]->∃ EX,kE (zW X.prog X.w) X EX/\∀ H',Jx H'->tD T.xt.E EX H'
theorem qX{x:Str}(h:yX x=true):(x == ("__debug__" : Str))=false:=by
 unfold yX at h;rw [ae] at h;exact aY _ |>.mp h.1
theorem uA{x:Str}(h:yX x=true):(x == ("__classdict__" : Str))=false:=by
 unfold yX at h;rw [ae] at h;exact aY _ |>.mp h.2
variable{T:Tc}
theorem CtxOk.var(C:CtxOk T X Jx){x:Str}{i:Nat}{p:Pos}(h:T.slot x=some i):PE X (.Name x p) (jO i):=by
 unfold Tc.slot at h;split at h
 ·rename_i e;obtain⟨e1,e2⟩:=ae.mp e;exact lW (by rw [C.N];exact nV h) (C.vis x e1) (qX e2) (uA e2)
 ·cases h
theorem CtxOk.slot(C:CtxOk T X Jx){x:Str}{i:Nat}(h:T.slot x=some i):X.N[i]? = some x:=by
 unfold Tc.slot at h;split at h
 ·rw [C.N];exact nV h
 ·cases h
def tE:Option NameKind->Bool
 | some .local=>true|some .cell=>true|_=>false
theorem CtxOk.tgt(C:CtxOk T X Jx){x:Str}{i:Nat}{p:Pos}(hl:tE (T.sc.names.lookup x)=true)(hs:T.slot x=some i):PG X (.Name x p) (m9 i):=by
 cases q:T.sc.names.lookup x with
 | none=>rw [q] at hl;cases hl
 | some k =>
  rw [q] at hl;cases k <;> first|(cases hl;done)|skip
  ·exact nE C.nd (C.slot hs) (.inl (C.loc x q)) (.inr (C.loc x q))
  ·exact nE C.nd (C.slot hs) (.inr (C.cel x q).1) (.inl (C.cel x q).2)
theorem CtxOk.isG(C:CtxOk T X Jx){x:Str}(h:T.isG x=true):Gl X x/\(x == ("__debug__" : Str))=false:=by
 obtain⟨e1,e2⟩:=ae.mp h;exact⟨C.gl x (eq_of_beq e1),qX e2⟩
def jd:Expr->Bool
 | .Starred .. => false | .Slice .. => false | .Set .. => false | .SetComp .. => false | .DictComp .. => false
 | _=>true
theorem iX{e:Expr}(h:jd e=true)(es:List Expr)(env:Env):starEach (e::es) env=(false,eval e env)::starEach es env:=by
 cases e <;> first|rfl|cases h
theorem qY{e:Expr}(h:jd e=true):lL e:=by
 cases e <;> first|exact fun _ _=>rfl|cases h
theorem lG{e:Expr}(h:jd e=true)(op:CmpOp):behindInMarks op e=false:=by
 cases e <;> first|rfl|cases h
theorem k7{e:Expr}(h:jd e=true)(env:Env)(x:Value):foldedSetIterable e env x=pure x:=by
 cases e <;> first|rfl|cases h
def jB:Expr->Bool
 | .ListComp .. => true | .SetComp .. => true | .DictComp .. => true
 | _=>false
theorem jg{e:Expr}(h:jB e=false)(t:Option Expr)(l:Nat)(env:Env):swapsWith e t l env=pure false:=by
 cases e <;> first|rfl|cases h
def xU:Expr->Bool
 | .UnaryOp .Not _ _=>false | .BoolOp .. => false | .IfExp .. => false | .Compare .. => false
 | _=>true
theorem vm{e:Expr}(h:xU e=true)(env:Env)(whole:Sem Value):isTrue e env whole=(do let v ← whole;standAt e.pos;holding [v] (truthy v)):=by
 cases e with
 | UnaryOp op a p=>cases op <;> first|rfl|cases h
 | BoolOp=>cases h
 | IfExp=>cases h
 | Compare=>cases h
 | _=>rfl
def jM(N:List Str)(scope:Scope):List Nat:=(List.range N.length).filter fun i=>tE (scope.names.lookup (N.getD i ""))
def tS(out scope:Scope):Bool:=decide (scope.kind = .function) && scope.names.all (fun y=>decide (scope.names.lookup y.1=some y.2)) && scope.names.all (fun y=>decide (y.2 ≠ .free) || decide (out.names.lookup y.1=some .cell) || decide (out.names.lookup y.1=some .free))
theorem CtxOk.compS(C:CtxOk T X Jx){scope:Scope}(h:tS T.sc scope=true):CompS X.N X.env.scope scope (jM T.N scope):=by
 unfold tS at h;rw [ae,ae] at h;obtain⟨⟨h1,h2⟩,h3⟩:=h;have one:∀ y∈scope.names,scope.names.lookup y.1=some y.2:=fun y hy=>of_decide_eq_true (aP.mp h2 y hy);refine⟨of_decide_eq_true h1,one,fun y hy e=>?_,fun y hy e=>e ▸ one y hy,fun i hi e=>?_⟩
 ·have:=aP.mp h3 y hy;rw [Bool.or_eq_true,Bool.or_eq_true] at this;rcases this with (w|w)|w
  ·exact absurd e (of_decide_eq_true w)
  ·exact C.cf _ (.inl (of_decide_eq_true w))
  ·exact C.cf _ (.inr (of_decide_eq_true w))
 ·rw [C.N] at hi e;exact bc.mpr ⟨List.mem_range.mpr hi,by rcases e with e|e <;> rw [e] <;> rfl⟩
theorem CtxOk.inner(C:CtxOk T X Jx){scope:Scope}(s2:Shared)(H2:Hp)(fp:List Addr)(pins:List (Addr×Obj))(A:Addr):CtxOk { T with sc:=scope,xt:=T.xt.inn } (kq X scope s2 H2 fp pins A) Jx where
 N:=C.N
 nd:=C.nd
 calm:=C.calm
 room:=C.room
 vis:=fun x h=>by
  have e:(kq X scope s2 H2 fp pins A).env.scope.names.lookup x=(scope.names.lookup x).map (kF X.env x):=kP;have h:zR (scope.names.lookup x)=true:=h;unfold xp;rw [e];cases q:scope.names.lookup x with
  | none=>rw [q] at h;cases h
  | some k =>
   rw [q] at h;cases k
   ·exact .inl rfl
   ·exact .inr (.inl rfl)
   ·show some (kF X.env x .free)=_\/some (kF X.env x .free)=_\/some (kF X.env x .free)=_;unfold kF;split
    ·exact .inr (.inl rfl)
    ·exact .inr (.inr rfl)
   ·cases h
   ·cases h
 gl:=fun x h=>by
  have e:(kq X scope s2 H2 fp pins A).env.scope.names.lookup x=(scope.names.lookup x).map (kF X.env x):=kP;have h:scope.names.lookup x=some .globalImplicit:=h;unfold Gl Env.kindOf;rw [e,h];rfl
 loc:=fun x h=>by
  have e:(kq X scope s2 H2 fp pins A).env.scope.names.lookup x=(scope.names.lookup x).map (kF X.env x):=kP;have h:scope.names.lookup x=some .local:=h;rw [e,h];rfl
 cf:=fun x h=>by
  have e:(kq X scope s2 H2 fp pins A).env.scope.names.lookup x=(scope.names.lookup x).map (kF X.env x):=kP;have h:scope.names.lookup x=some .cell\/scope.names.lookup x=some .free:=h;rw [e];rcases h with h|h
  ·rw [h];exact .inl rfl
  ·rw [h];show some (kF X.env x .free)=_\/some (kF X.env x .free)=_;unfold kF;split
   ·exact .inl rfl
   ·exact .inr rfl
 fn:=C.fn
 gc:=C.gc
 bl:=C.bl
 cel:=fun x h=>by
  have e:(kq X scope s2 H2 fp pins A).env.scope.names.lookup x=(scope.names.lookup x).map (kF X.env x):=kP;have h:scope.names.lookup x=some .cell:=h;refine⟨by rw [e,h];rfl,?_⟩;show (scope.names.lookup x == some .cell)=true;rw [h];rfl
 xt:=⟨C.xt.xi,C.xt.xf,C.xt.x0,C.xt.xc,fun _ _ _ _ h=>absurd h au,C.xt.tab,C.xt.xs,C.xt.xm,C.xt.gd⟩
 gn:=C.gn
 px:=fun h=>absurd rfl h
def BO:Const->Option D
 | .int i=>some (.int i) | .bool b=>some (.bl b) | .str x=>some (.str x) | .none=>some .non|_=>none
def A6(T:Tc)(x:Str):Option D:=T.gc.lookup x
def pM(T:Tc):List Expr->Option (List Nat)
 | []=>some []
 | .Name x _::r=>if tE (T.sc.names.lookup x)=true then (T.slot x).bind fun i=>(pM T r).map (i :: ·) else none
 | _=>none
def Bz(T:Tc):Expr->Option TGd
 | .Name x _=>if tE (T.sc.names.lookup x)=true then (T.slot x).map gNm else none
 | .Tuple es _ _=>(pM T es).map gTp
 | _=>none
def nR(T:Tc)(x:Str)(as:List Expr):Option Nat:=if x = "len" then (match as with
 | [.Name y _]=>(T.slot y).bind fun i=>if T.mu.contains i then some i else none
 | _=>none) else none
theorem sK{x:Str}{as:List Expr}{i:Nat}(h:nR T x as=some i):x = "len" /\ ∃ y p,as=[.Name y p]/\T.slot y=some i:=by
 unfold nR at h;split at h
 ·rename_i ex;split at h
  ·rename_i y p;obtain⟨j,h1,h⟩:=ad.mp h;split at h
   ·cases h;exact⟨ex,y,p,rfl,h1⟩
   ·cases h
  ·cases h
 ·cases h
abbrev FE:=Expr->Option TEd
abbrev FT:=Expr->Option TTd
abbrev FA:=List Expr->Option TAd
def two(E:FE)(a b:Expr)(k:TEd->TEd->TEd):Option TEd:=(E a).bind fun ta=>(E b).map fun tb=>k ta tb
def Bh(E:FE)(a:Expr):List CmpOp->List Expr->Option TEd
 | [op],[b]=>if jd b then two E a b (dl op) else none
 | [op,op'],[b,c]=>if jd b && jd c then (E a).bind fun ta=>(E b).bind fun tb=>(E c).map fun tc=>er op op' ta tb tc else none
 | _,_=>none
def Bg(E:FE)(a:Expr):List CmpOp->List Expr->Option TTd
 | [op],[b]=>if jd b then (two E a b (dl op)).map dg else none
 | [op,op'],[b,c]=>if jd b && jd c then (E a).bind fun ta=>(E b).bind fun tb=>(E c).map fun tc=>dg (er op op' ta tb tc) else none
 | _,_=>none
def CP(E:FE)(a:Expr):UnaryOp->Option TEd
 | .USub=>(E a).map hX
 | .Not=>(E a).map hZ
 | _=>none
def C7(E:FE)(p:Pos)(op:BoolOp):List Expr->Option TEd
 | [a]=>E a
 | a::b::r=>(E a).bind fun ta=>(E (.BoolOp op (b::r) p)).map fun tb=>match op with | .And=>g7 ta tb | .Or=>dOr ta tb
 | []=>none
def C6(F:FT)(p:Pos)(op:BoolOp):List Expr->Option TTd
 | [a]=>F a
 | a::b::r=>(F a).bind fun ta=>(F (.BoolOp op (b::r) p)).map fun tb=>match op with | .And=>eg ta tb | .Or=>eQ ta tb
 | []=>none
def oO(E:FE):Option Expr->Option TOd
 | none=>some dNo
 | some e=>(E e).map fh
def wP:Expr->Bool
 | .UnaryOp .USub (.Constant (.int i) _ _) _=>i == 1
 | _=>false
def Ce(T:Tc)(x:Str):Option TEd:=match T.slot x with
 | some i=>some (c9 i)
 | none=>if T.isG x then (A6 T x).map dC else none
def uv(T:Tc):Expr->Option Nat
 | .Name x _=>(T.slot x).bind fun i=>if T.mu.contains i then some i else none
 | _=>none
def C0(E:FE)(T:Tc)(a b:Expr):Option TEd:=if jd b then (match uv T a with
  | some i=>(E b).map (iC i)
  | none=>two E a b dIx) else none
def Aq(E:FE)(T:Tc)(a:Expr):Expr->Option TEd
 | .Slice lo hi st _=>(match st with
  | none=>(E a).bind fun ta=>(oO E lo).bind fun tl=>(oO E hi).map fun tu=>dSl ta tl tu
  | some m=>if lo.isNone && hi.isNone && wP m then (E a).map ic else none)
 | b=>C0 E T a b
def BE(T:Tc):List Expr->Option (List Str)
 | []=>some []
 | .Name y _::r=>if T.isG y then (BE T r).map (y :: ·) else none
 | _=>none
def vi(E:FE)(A:FA)(T:Tc)(x:Str)(as:List Expr):Option TEd:=match T.G.lookup x with
 | some (j,s)=>if decide (j<=T.k) && !as.isEmpty then (A as).map (dh s) else none
 | none=>match T.xt.gx.lookup x with
 | some (j,_,s)=>if decide (j<=T.k) && !as.isEmpty then (A as).map (dh (s.at T.xt.E)) else none
 | none=>match T.xt.xc.lookup x with
 | some (i,C,y)=>if decide (i+1<=T.k) && !as.isEmpty then (A as).map (dh (CU C y)) else none
 | none=>match T.xt.x0.lookup x with
 | some C=>if as.isEmpty then some (iG C) else none
 | none=>if x = "isinstance" then (match as with
   | [a,.Name y _]=>if jd a && T.isG y then (match T.xt.xi.lookup y with
    | some g=>(E a).map (gI g)
    | none=>(pH y).bind fun ty=>(E a).map (ig ty)) else none
   | [a,.Tuple es _ _]=>if jd a then (BE T es).bind fun ns=>(T.xt.xs.lookup ns).bind fun g=>(E a).map (gI g) else none
   | _=>none)
  else (C9 x).bind fun o=>match nR T x as with
   | some i=>some (gq i)
   | none=>if as.isEmpty then none else (A as).map (dB o.2.2.run o.2.2.mono)
def zg(E:FE)(T:Tc)(tg e:Expr):Option TAd:=match e with
 | .Call (.Name x _) [a] [] _=>if x = "range" then (if jd a && T.isG "range" then (E a).map fH else none)
  else if x = "enumerate" then (match tg with
   | .Tuple .. => if jd a && T.isG "enumerate" then (E a).map fX else none
   | _=>none)
  else if x = "reversed" then (if jd a && T.isG "reversed" then (E a).map gu else none)
  else (E e).map dU
 | .Call (.Name x _) [a,b] [] _=>if x = "range" then (if jd a && jd b && T.isG "range" then (E a).bind fun ta=>(E b).map (gr ta) else none)
  else (E e).map dU
 | e=>(E e).map dU
def rN(I:Option TAd)(E:FE)(F:FT)(T:Tc)(e tg:Expr)(ifs:List Expr)(sc:Scope):Option TEd:=I.bind fun ti=>(Bz { T with sc:=sc,xt:=T.xt.inn } tg).bind fun g =>
 if g.tg.all (fun i=>(jM T.N sc).contains i) then (E e).bind fun te=>(match ifs with
  | []=>some (eh ti (jM T.N sc) g gv te)
  | [k]=>(F k).map fun tk=>eh ti (jM T.N sc) g tk te
  | _=>none) else none
def jZ(E:FE):FA
 | []=>some de
 | e::r=>if jd e then (E e).bind fun te=>(jZ E r).map fun tr=>c8 te tr else none
def xM(E:FE)(T:Tc)(sep m:Str)(ap cp:Pos):List Expr->Option TEd
 | [.Call (.Name y p) [a] [] q]=>if m = "join" then (if (ap.endLine == cp.line) && jd a then (if y = "reversed" then (if T.isG "reversed" then (E a).map (fZ sep) else none) else (E (.Call (.Name y p) [a] [] q)).map (ft sep)) else none) else none
 | [a]=>if m = "join" then (if (ap.endLine == cp.line) && jd a then (E a).map (ft sep) else none) else none
 | _=>none
def y1(m:Str):Option MK:=if m = "startswith" then some .starts else if m = "partition" then some .part else if m = "split" then some .split else none
def uH(E:FE)(m:Str)(ap cp:Pos)(as:List Expr)(ks:List Keyword)(o:Expr):Option TEd:=match as with
 | [b]=>(y1 m).bind fun k=>if ks.isEmpty && (ap.endLine == cp.line) && jd b then (E o).bind fun t=>(E b).map (iI k t) else none
 | _=>none
def lJ:Str->List Expr->Option (Str×Pos×Pos×Pos)
 | x,[.Call (.Attribute (.Name y p) m ap) [] [] cp]=>if x = "list" then (if m = "items" then (if ap.endLine == cp.line then some (y,p,ap,cp) else none) else none) else none
 | _,_=>none
theorem qh{x y:Str}{as:List Expr}{p ap cp:Pos}(h:lJ x as=some (y,p,ap,cp)):x = "list" /\ as=[.Call (.Attribute (.Name y p) "items" ap) [] [] cp]/\(ap.endLine == cp.line)=true:=by
 unfold lJ at h;split at h
 ·obtain⟨q1,h⟩:=ac.mp h;obtain⟨q2,h⟩:=ac.mp h;obtain⟨q3,h⟩:=ac.mp h;cases h;subst q1 q2;exact⟨rfl,rfl,q3⟩
 ·cases h
def oh(E:FE)(T:Tc)(cp:Pos)(as:List Expr)(ks:List Keyword):Expr->Option TEd
 | .Name x _=>if ks.isEmpty then (if T.isG x then (match lJ x as with|some (y,p,_,_)=>(E (.Name y p)).map eZ|none=>vi E (jZ E) T x as) else none) else none
 | .Attribute (.Constant (.str sep) _ _) m ap=>if ks.isEmpty then xM E T sep m ap cp as else none
 | .Attribute (.Name x p) m ap=>if m = "bit_length" then (if ks.isEmpty && as.isEmpty && (ap.endLine == cp.line) then (E (.Name x p)).map gW else none) else uH E m ap cp as ks (.Name x p)
 | .Attribute (.Subscript a b p) m ap=>uH E m ap cp as ks (.Subscript a b p)
 | .Attribute (.IfExp k a b p) m ap=>uH E m ap cp as ks (.IfExp k a b p)
 | _=>none
def zm(E:FE)(T:Tc)(x:Str):Expr->Option TEd
 | .Name y p=>(T.xt.xf.lookup x).bind fun ok=>(E (.Name y p)).map (g8 x ok)
 | .Subscript a b p=>(T.xt.xf.lookup x).bind fun ok=>(E (.Subscript a b p)).map (g8 x ok)
 | _=>none
def uX:List Comprehension->Option (Expr×Expr×List Expr)
 | [⟨tg,it,ifs,0⟩]=>if jd it then some (tg,it,ifs) else none
 | _=>none
mutual
def jr:Nat->Tc->Expr->Option TEd
 | 0,_,_=>none
 | n+1,T,e=>match e with
  | .Name x _=>Ce T x
  | .Constant k _ _=>(BO k).map dC
  | .BinOp a op b _=>two (jr n T) a b (dm op)
  | .Compare a ops bs _=>Bh (jr n T) a ops bs
  | .UnaryOp op a _=>CP (jr n T) a op
  | .BoolOp op vs p=>C7 (jr n T) p op vs
  | .IfExp k a b _=>(oD n T k).bind fun tk=>two (jr n T) a b (ia tk)
  | .Tuple es _ _=>(jZ (jr n T) es).map dJ
  | .List es _=>(jZ (jr n T) es).map dO
  | .Subscript a b _=>Aq (jr n T) T a b
  | .Call g as ks p=>oh (jr n T) T p as ks g
  | .Attribute a x _=>zm (jr n T) T x a
  | .ListComp e gs sc _=>if tS T.sc sc then (uX gs).bind fun (tg,it,ifs)=>rN (zg (jr n T) T tg it) (jr n { T with sc:=sc,xt:=T.xt.inn }) (oD n { T with sc:=sc,xt:=T.xt.inn }) T e tg ifs sc else none
  | _=>none
def oD:Nat->Tc->Expr->Option TTd
 | 0,_,_=>none
 | n+1,T,e=>match e with
  | .Compare a ops bs _=>Bg (jr n T) a ops bs
  | .UnaryOp op a p=>if op = .Not then (oD n T a).map eI else (jr n T (.UnaryOp op a p)).map fj
  | .BoolOp op vs p=>C6 (oD n T) p op vs
  | .IfExp .. => none
  | e=>(jr n T e).map fj
end
end
section
open PySem L2 Dp
variable{K:Frag}{Jx:Hp->Prop}{X:Cx}{T:Tc}{pos p p2:Pos}{a b e:Expr}{E:FE}{F:FT}
def mt(X:Cx)(Jx:Hp->Prop)(E:FE):Prop:=∀{e:Expr} {t:TEd},E e=some t->PE X e (LE X.K Jx t)
def BK(X:Cx)(Jx:Hp->Prop)(F:FT):Prop:=∀{e:Expr} {t:TTd},F e=some t->PT X e (LT X.K Jx t)
theorem A5(C:CtxOk T X Jx){x:Str}{d:D}(hg:T.isG x=true)(h:A6 T x=some d):PE X (.Name x p) (LE X.K Jx (dC d)):=by
 obtain⟨g1,g2⟩:=C.isG hg;obtain⟨v,u,h1,h2,h3⟩:=C.gc x d (i9 h);exact dC.ok (nG g1 h1 h2 g2) h3
theorem yc{k:Const}{d:D}{j:Nat}(h:BO k=some d):PE X (.Constant k j pos) (LE X.K Jx (dC d)):=by
 cases k <;> first|(cases h;done)|skip
 all_goals (cases h)
 all_goals first|exact dC.ok iV fun _ _ _=>rfl|exact dC.ok uh fun _ _ _=>rfl|exact dC.ok nF fun _ _ _=>rfl|exact dC.ok yL fun _ _ _=>rfl
theorem lD(C:CtxOk T X Jx):∀{es:List Expr} {is:List Nat},pM T es=some is->Br X es (gsAll is)/\(assignEach es X.env).length=is.length/\(assignEach es X.env).findIdx? (·.1)=none
 | [],is,h=>by
  cases h;exact⟨v5,rfl,rfl⟩
 | a::r,is,h=>by
  cases a <;> first|(cases h;done)|skip
  rename_i x p;obtain⟨hl,h⟩:=ac.mp (show (if tE (T.sc.names.lookup x)=true then (T.slot x).bind fun i=>(pM T r).map (i :: ·) else none)=some is from h);obtain⟨i,h1,h⟩:=ad.mp h;obtain⟨is',h2,rfl⟩:=aa.mp h;obtain⟨q1,q2,q3⟩:=lD C h2;refine⟨ub (C.tgt hl h1) q1 rfl,?_,?_⟩
  ·show ((false,assign (.Name x p) X.env)::assignEach r X.env).length=_;rw [aJ,q2];rfl
  ·show ((false,assign (.Name x p) X.env)::assignEach r X.env).findIdx? (·.1)=none;rw [List.findIdx?_cons,q3];rfl
theorem pN(C:CtxOk T X Jx){e:Expr}{g:TGd}(h:Bz T e=some g):PG X e (LG X.K Jx g):=by
 cases e <;> first|(cases h;done)|skip
 ·rename_i x p;obtain⟨hl,h⟩:=ac.mp (show (if tE (T.sc.names.lookup x)=true then (T.slot x).map gNm else none)=some g from h);obtain⟨i,h1,rfl⟩:=aa.mp h;exact gNm.ok (C.tgt hl h1)
 ·rename_i es k p;obtain⟨is,h1,rfl⟩:=aa.mp (show (pM T es).map gTp=some g from h);obtain⟨q1,q2,q3⟩:=lD C h1;exact gTp.ok (pS C.calm q1 q2 q3)
theorem kW{k:TEd->TEd->TEd}{t:TEd}(h:two E a b k=some t):∃ ta tb,E a=some ta/\E b=some tb/\t=k ta tb:=by
 obtain⟨ta,h1,h⟩:=ad.mp h;obtain⟨tb,h2,rfl⟩:=aa.mp h;exact⟨ta,tb,h1,h2,rfl⟩
theorem xg(C:CtxOk T X Jx)(ih:mt X Jx E):∀{ops:List CmpOp} {bs:List Expr} {t:TEd},Bh E a ops bs=some t->PE X (.Compare a ops bs pos) (LE X.K Jx t)
 | [op],[b],t,h=>by
  obtain⟨hn,h⟩:=ac.mp h;obtain⟨ta,tb,h1,h2,rfl⟩:=kW h;exact dl.ok C.room (ih h1) (ih h2) (lG hn _)
 | [op,op'],[b,c],t,h=>by
  obtain⟨hn,h⟩:=ac.mp h;obtain⟨n1,n2⟩:=ae.mp hn;obtain⟨ta,h1,h⟩:=ad.mp h;obtain⟨tb,h2,h⟩:=ad.mp h;obtain⟨tc,h3,rfl⟩:=aa.mp h;exact er.ok C.room (ih h1) (ih h2) (ih h3) (lG n2 _)
 | [],_,_,h=>by cases h
 | [_],[],_,h=>by cases h
 | [_],_::_::_,_,h=>by cases h
 | [_,_],[],_,h=>by cases h
 | [_,_],[_],_,h=>by cases h
 | [_,_],_::_::_::_,_,h=>by cases h
 | _::_::_::_,_,_,h=>by cases h
theorem xb(C:CtxOk T X Jx)(ih:mt X Jx E):∀{ops:List CmpOp} {bs:List Expr} {t:TTd},Bg E a ops bs=some t->PT X (.Compare a ops bs pos) (LT X.K Jx t)
 | [op],[b],t,h=>by
  obtain⟨hn,h⟩:=ac.mp h;obtain⟨t0,h0,rfl⟩:=aa.mp h;obtain⟨ta,tb,h1,h2,rfl⟩:=kW h0;exact dl.test C.room (ih h1) (ih h2) (lG hn _)
 | [op,op'],[b,c],t,h=>by
  obtain⟨hn,h⟩:=ac.mp h;obtain⟨n1,n2⟩:=ae.mp hn;obtain⟨ta,h1,h⟩:=ad.mp h;obtain⟨tb,h2,h⟩:=ad.mp h;obtain⟨tc,h3,rfl⟩:=aa.mp h;exact er.test C.room (ih h1) (ih h2) (ih h3) (lG n2 _)
 | [],_,_,h=>by cases h
 | [_],[],_,h=>by cases h
 | [_],_::_::_,_,h=>by cases h
 | [_,_],[],_,h=>by cases h
 | [_,_],[_],_,h=>by cases h
 | [_,_],_::_::_::_,_,h=>by cases h
 | _::_::_::_,_,_,h=>by cases h
theorem x8(ih:mt X Jx E){op:UnaryOp}{t:TEd}(h:CP E a op=some t):PE X (.UnaryOp op a pos) (LE X.K Jx t):=by
 cases op <;> first|(cases h;done)|skip
 ·obtain⟨ta,h1,rfl⟩:=aa.mp (show (E a).map hZ=some t from h);exact hZ.ok (ih h1)
 ·obtain⟨ta,h1,rfl⟩:=aa.mp (show (E a).map hX=some t from h);exact hX.ok (ih h1)
theorem zC(ih:mt X Jx E):∀{op:BoolOp} {vs:List Expr} {t:TEd},C7 E p op vs=some t->PE X (.BoolOp op vs p) (LE X.K Jx t)
 | _,[a],_,h=>pU (ih h)
 | .And,a::b::r,t,h=>by
  obtain⟨ta,h1,h⟩:=ad.mp h;obtain⟨tb,h2,rfl⟩:=aa.mp h;exact g7.ok (ih h1) (ih h2)
 | .Or,a::b::r,t,h=>by
  obtain⟨ta,h1,h⟩:=ad.mp h;obtain⟨tb,h2,rfl⟩:=aa.mp h;exact dOr.ok (ih h1) (ih h2)
 | _,[],_,h=>by cases h
theorem zB(ih:BK X Jx F)(iw:∀{op:BoolOp} {vs:List Expr} {p:Pos} {t:TTd},F (.BoolOp op vs p)=some t->PW X (.BoolOp op vs p) (LT X.K Jx t)):∀{op:BoolOp} {vs:List Expr} {t:TTd},C6 F p op vs=some t->PW X (.BoolOp op vs p) (LT X.K Jx t)
 | .And,[a],_,h=>qR (ih h)
 | .Or,[a],_,h=>yF (ih h)
 | .And,a::b::r,t,h=>by
  obtain⟨ta,h1,h⟩:=ad.mp h;obtain⟨tb,h2,rfl⟩:=aa.mp h;exact eg.ok (ih h1) (iw h2)
 | .Or,a::b::r,t,h=>by
  obtain⟨ta,h1,h⟩:=ad.mp h;obtain⟨tb,h2,rfl⟩:=aa.mp h;exact eQ.ok (ih h1) (iw h2)
 | _,[],_,h=>by cases h
theorem oN(ih:mt X Jx E):∀{o:Option Expr} {t:TOd},oO E o=some t->PO X o (LO X.K Jx t)
 | none,_,h=>by
  cases h;exact dNo.ok
 | some e,t,h=>by
  obtain⟨ta,h1,rfl⟩:=aa.mp h;exact fh.ok (ih h1)
theorem wO{m:Expr}(h:wP m=true):∃ j p1 p3,m = .UnaryOp .USub (.Constant (.int 1) j p1) p3:=by
 unfold wP at h;split at h
 ·rename_i i j p1 p3;have e:i=1:=eq_of_beq h;exact⟨j,p1,p3,by rw [e]⟩
 ·cases h
theorem uu(C:CtxOk T X Jx){i:Nat}(h:uv T a=some i):PE X a (jO i):=by
 cases a <;> first|(cases h;done)|skip
 obtain⟨j,h1,h⟩:=ad.mp h;obtain⟨_,h⟩:=ac.mp h;cases h;exact C.var h1
theorem vM(C:CtxOk T X Jx)(ih:mt X Jx E){t:TEd}(h:Aq E T a b=some t):PE X (.Subscript a b pos) (LE X.K Jx t):=by
 have key:∀{b:Expr},C0 E T a b=some t->PE X (.Subscript a b pos) (LE X.K Jx t):=fun {b} h=>by
  obtain⟨hn,h⟩:=ac.mp h;cases ho:uv T a with
  | some i =>
   rw [ho] at h;obtain⟨tb,h2,rfl⟩:=aa.mp h;exact iC.ok (uu C ho) (ih h2) (qY hn)
  | none =>
   rw [ho] at h;obtain⟨ta,tb,h1,h2,rfl⟩:=kW h;exact dIx.ok (ih h1) (ih h2) (qY hn)
 cases b;case Slice lo hi st p2 =>
  cases st with
  | none =>
   obtain⟨tk,h0,h⟩:=ad.mp (show (E a).bind (fun ta=>(oO E lo).bind fun tl=>(oO E hi).map fun tu=>dSl ta tl tu)=some t from h);obtain⟨ta,h1,h⟩:=ad.mp h;obtain⟨tb,h2,rfl⟩:=aa.mp h;exact dSl.ok (ih h0) (oN ih h1) (oN ih h2)
  | some m =>
   have h:(if lo.isNone && hi.isNone && wP m then (E a).map ic else none)=some t:=h;split at h
   rotate_left
   ·cases h
   rename_i hm;obtain⟨hm,m1⟩:=ae.mp hm;obtain⟨l1,l2⟩:=ae.mp hm;cases lo <;> cases hi <;> first|(cases l1;done)|(cases l2;done)|skip
   obtain⟨j,p1,p3,rfl⟩:=wO m1;obtain⟨ta,h1,rfl⟩:=aa.mp h;exact ic.ok (k:=0) (ih h1)
 all_goals exact key h
theorem jn(ih:mt X Jx E):∀{es:List Expr} {t:TAd},jZ E es=some t->PA X es (LA X.K Jx t)
 | [],t,h=>by
  cases h;exact de.ok
 | e::r,t,h=>by
  obtain⟨hn,h⟩:=ac.mp h;obtain⟨ta,h1,h⟩:=ad.mp h;obtain⟨tb,h2,rfl⟩:=aa.mp h;exact c8.ok (ih h1) (jn ih h2) (iX hn _ _)
theorem jm{r:List Expr}{t:TAd}(h:jZ E (a::r)=some t):starEach (a::r) X.env=(false,eval a X.env)::starEach r X.env:=iX (ac.mp h).1 _ _
theorem mn:∀{r:List Expr} {t:TAd},jZ E r=some t->(backTo pos (starEach r X.env)).any (·.1)=false
 | [],_,_=>rfl
 | a::r,t,h=>by
  rw [jm h];obtain⟨hn,h⟩:=ac.mp h;obtain⟨ta,h1,h⟩:=ad.mp h;obtain⟨tb,h2,rfl⟩:=aa.mp h;have:=mn h2;unfold backTo at this ⊢;rw [aH,bn,this];rfl
theorem jv{r:List Expr}{t:TAd}(h:jZ E (a::r)=some t):(backTo pos (starEach r X.env)).any (·.1)=false:=by
 obtain⟨hn,h⟩:=ac.mp h;obtain⟨ta,h1,h⟩:=ad.mp h;obtain⟨tb,h2,rfl⟩:=aa.mp h;exact mn h2
theorem uB(C:CtxOk T X Jx):∀{es:List Expr} {ns:List Str} {as:List Addr},BE T es=some ns->ns.map X.mg=as.map (fun a=>some (Value.ref a))->PA X es (xy as)
 | [],ns,as,h,e=>by
  cases h;cases as with
  | nil=>exact pa_nil
  | cons=>cases e
 | a::r,ns,as,h,e=>by
  cases a <;> first|(cases h;done)|skip
  rename_i y p;obtain⟨hg,h⟩:=ac.mp (show (if T.isG y then (BE T r).map (y :: ·) else none)=some ns from h);obtain⟨ns',h1,rfl⟩:=aa.mp h;cases as with
  | nil=>cases e
  | cons a as =>
   rw [aH,aH] at e;injection e with e1 e2;obtain⟨g1,g2⟩:=C.isG hg;exact (iS (nG (v:=.ref a) g1 e1 rfl g2) (uB C h1 e2) rfl).weak fun σ H Q q=>q
theorem CW{α β:Type}[BEq β][LawfulBEq β]{a:β}{v:α}:∀{l:List (β×α)},l.lookup a=some v->(a,v)∈l
 | [],h=>by cases h
 | (b,u)::l,h=>by
  rw [bC] at h;split at h
  ·rename_i e;cases h;rw [eq_of_beq e];exact av
  ·exact ar _ (CW h)
theorem wH{m:Str}{k:MK}(h:y1 m=some k):m=k.nm:=by
 unfold y1 at h;split at h
 ·cases h;assumption
 ·split at h
  ·cases h;assumption
  ·split at h
   ·cases h;assumption
   ·cases h
theorem nN(ih:mt X Jx E){m:Str}{ap cp:Pos}{as:List Expr}{ks:List Keyword}{o:Expr}{t:TEd}(hb:∀ m:Str,attributeBase o m X.env (eval o X.env)=eval o X.env)(h:uH E m ap cp as ks o=some t):PE X (.Call (.Attribute o m ap) as ks cp) (LE X.K Jx t):=by
 unfold uH at h;split at h
 ·obtain⟨k,h1,h⟩:=ad.mp h;obtain⟨hk,h⟩:=ac.mp h;obtain⟨hk,n1⟩:=ae.mp hk;obtain⟨k1,k2⟩:=ae.mp hk;obtain⟨t1,h2,h⟩:=ad.mp h;obtain⟨t2,h3,rfl⟩:=aa.mp h;cases bI.mp k1;rw [wH h1];exact iI.ok (ih h2) (ih h3) (hb _) k2 (iX n1 [] _)
 ·cases h
theorem vh(C:CtxOk T X Jx)(ih:mt X Jx E){x:Str}{as:List Expr}{t:TEd}(hg:T.isG x=true)(h:vi E (jZ E) T x as=some t):PE X (.Call (.Name x p) as [] pos) (LE X.K Jx t):=by
 obtain⟨g1,g2⟩:=C.isG hg;unfold vi at h;cases e1:T.G.lookup x with
 | some js =>
  obtain⟨j,s⟩:=js;rw [e1] at h;obtain⟨hk,h⟩:=ac.mp h;obtain⟨k1,k2⟩:=ae.mp hk;obtain⟨tb,h2,rfl⟩:=aa.mp h;cases as with
  | nil=>cases k2
  | cons a r =>
   obtain⟨ps,d⟩:=C.fn x j s (i9 e1);exact dh.ok (lX d C.room (jn ih h2) (of_decide_eq_true k1) g1 g2 (jm h2) (jv h2))
 | none =>
  rw [e1] at h;cases e6:T.xt.gx.lookup x with
  | some js =>
   obtain⟨j,g,s⟩:=js;dsimp only at h;rw [e6] at h;obtain⟨hk,h⟩:=ac.mp h;obtain⟨k1,k2⟩:=ae.mp hk;obtain⟨tb,h2,rfl⟩:=aa.mp h;cases as with
   | nil=>cases k2
   | cons a r =>
    obtain⟨ps,d⟩:=C.xt.gx x j g s (i9 e6);obtain⟨EX,px,hJ⟩:=C.px fun z=>by rw [z] at e6;cases e6
    exact dh.okX hJ (v8 d C.room px (jn ih h2) (of_decide_eq_true k1) g1 g2 (jm h2) (jv h2))
  | none =>
  dsimp only at h;rw [e6] at h;cases e4:T.xt.xc.lookup x with
  | some js =>
   obtain⟨i,Cc,y⟩:=js;dsimp only at h;rw [e4] at h;obtain⟨hk,h⟩:=ac.mp h;obtain⟨k1,k2⟩:=ae.mp hk;obtain⟨tb,h2,rfl⟩:=aa.mp h;cases as with
   | nil=>cases k2
   | cons a r=>exact dh.ok (uc (C.xt.xc x i Cc y (i9 e4)) C.room (jn ih h2) (of_decide_eq_true k1) g1 g2 (jm h2) (jv h2))
  | none =>
  dsimp only at h;rw [e4] at h;cases e5:T.xt.x0.lookup x with
  | some Cc =>
   dsimp only at h;rw [e5] at h;obtain⟨hk,h⟩:=ac.mp h;cases h;cases as with
   | cons=>cases hk
   | nil =>
    obtain⟨m1,m2,N,m3,m4⟩:=C.xt.x0 x Cc (i9 e5);exact iG.ok m3 m4 m2 g1 m1 g2
  | none =>
  dsimp only at h;rw [e5] at h;by_cases ex:x = "isinstance"
  ·subst ex;dsimp only at h;rw [if_pos rfl] at h;split at h
   ·obtain⟨hn,h⟩:=ac.mp h;obtain⟨n1,n2⟩:=ae.mp hn;split at h
    ·rename_i y _ g e6;obtain⟨tb,h2,rfl⟩:=aa.mp h;obtain⟨c,hc,hk⟩:=C.xt.xi _ _ (i9 e6);obtain⟨q1,q2⟩:=C.isG n2;rcases hc with⟨a0,rfl,m1⟩|⟨n0,rfl,m1,m2,m3⟩
     ·exact gI.ok g1 C.bl.isinstance (nG (v:=.ref a0) q1 m1 rfl q2) rfl hk (ih h2) (fun es=>iX n1 es _) rfl
     ·exact gI.ok g1 C.bl.isinstance (jx (v:=.ty n0) q1 m1 m3 rfl m2 q2) rfl hk (ih h2) (fun es=>iX n1 es _) rfl
    ·obtain⟨ty,h1,h⟩:=ad.mp h;obtain⟨tb,h2,rfl⟩:=aa.mp h;exact ig.ok C.bl h1 g1 (C.isG n2).1 (ih h2) fun es=>iX n1 es _
   ·obtain⟨n1,h⟩:=ac.mp h;obtain⟨ns,h1,h⟩:=ad.mp h;obtain⟨g,h2,h⟩:=ad.mp h;obtain⟨tb,h3,rfl⟩:=aa.mp h;obtain⟨as,hl,hm,hk⟩:=C.xt.xs _ _ (CW h2);exact iO.ok g1 C.bl.isinstance (uB C h1 hm) hl hk (ih h3) fun es=>iX n1 es _
   ·cases h
  ·dsimp only at h;rw [if_neg ex] at h;obtain⟨⟨k,id,o⟩,e0,h3⟩:=ad.mp h;obtain⟨b1,b2,b3,b4⟩:=zE C.room C.calm C.bl e0;cases e2:nR T x as with
   | some i =>
    rw [e2] at h3;have h4:some (gq i)=some t:=h3;obtain⟨rfl,y,p2,rfl,e3⟩:=sK e2;cases h4;exact gq.ok g1 C.bl.len (C.var e3) rfl
   | none =>
    rw [e2] at h3;obtain⟨hne,h5⟩:=bq.mp (show (if as.isEmpty=true then none else (jZ E as).map (dB o.run o.mono))=some t from h3);obtain⟨tb,h2,rfl⟩:=aa.mp h5;cases as with
    | nil=>exact absurd rfl hne
    | cons a r =>
     cases k with
     | true =>
      obtain⟨b5,rr,b6,b7⟩:=b4;exact dB.ok b7 (i7 b6 g1 b1 b5 (jn ih h2) b2 b3 (jm h2) (jv h2))
     | false =>
      obtain⟨b5,rr,b6,b7⟩:=b4;exact dB.ok b7 (ki b6 g1 b1 b5 (jn ih h2) b2 b3 (jm h2) (jv h2))
theorem qB(C:CtxOk T X Jx)(ih:mt X Jx E){g:Expr}{as:List Expr}{ks:List Keyword}{t:TEd}(h:oh E T pos as ks g=some t):PE X (.Call g as ks pos) (LE X.K Jx t):=by
 unfold oh at h;split at h
 ·rename_i x p0;split at h
  ·rename_i k0;obtain⟨hg,h1⟩:=ac.mp h;cases bI.mp k0;cases ei:lJ x as with
   | none=>rw [ei] at h1;exact vh C ih hg h1
   | some y =>
    obtain⟨y,p,ap,cp⟩:=y;rw [ei] at h1;obtain⟨ta,h2,rfl⟩:=aa.mp h1;obtain⟨rfl,rfl,hl⟩:=qh ei;exact eZ.ok (C.isG hg).1 C.bl.list C.room.hd (ih h2) rfl hl
  ·cases h
 ·rename_i sep j p1 m ap;obtain⟨k0,h1⟩:=ac.mp h;clear h;cases bI.mp k0;unfold xM at h1;split at h1
  ·obtain⟨k3,h2⟩:=ac.mp h1;clear h1;cases k3;obtain⟨hk,h3⟩:=ac.mp h2;clear h2;obtain⟨k1,k2⟩:=ae.mp hk;split at h3
   ·rename_i ey;subst ey;obtain⟨g1,h3⟩:=ac.mp h3;obtain⟨ta,h4,rfl⟩:=aa.mp h3;exact fZ.ok nF (C.isG g1).1 C.bl.reversed C.calm (ih h4) rfl k1 (iX k2 [] _)
   ·obtain⟨ta,h4,rfl⟩:=aa.mp h3;exact ft.ok nF (ih h4) rfl k1 rfl
  ·obtain⟨k3,h2⟩:=ac.mp h1;clear h1;cases k3;obtain⟨hk,h3⟩:=ac.mp h2;obtain⟨k1,k2⟩:=ae.mp hk;obtain⟨ta,h4,rfl⟩:=aa.mp h3;exact ft.ok nF (ih h4) rfl k1 (iX k2 [] _)
  ·cases h1
 ·split at h
  ·rename_i k3;cases k3;obtain⟨hk,h2⟩:=ac.mp h;obtain⟨k1,k2⟩:=ae.mp hk;obtain⟨k4,k5⟩:=ae.mp k1;cases bI.mp k4;cases bI.mp k5;obtain⟨ta,h4,rfl⟩:=aa.mp h2;exact gW.ok (ih h4) rfl k2
  ·exact nN ih (fun _=>rfl) h
 ·exact nN ih (fun _=>rfl) h
 ·exact nN ih (fun _=>rfl) h
 ·cases h
theorem wW(C:CtxOk T X Jx)(ih:mt X Jx E){x:Str}{t:TEd}(h:zm E T x a=some t):PE X (.Attribute a x pos) (LE X.K Jx t):=by
 unfold zm at h;split at h
 ·obtain⟨ok,h1,h⟩:=ad.mp h;obtain⟨ta,h2,rfl⟩:=aa.mp h;exact g8.ok (C.xt.xf _ _ (i9 h1)) (ih h2) rfl
 ·obtain⟨ok,h1,h⟩:=ad.mp h;obtain⟨ta,h2,rfl⟩:=aa.mp h;exact g8.ok (C.xt.xf _ _ (i9 h1)) (ih h2) rfl
 ·cases h
theorem qk(C:CtxOk T X Jx)(ih:mt X Jx E){tg e:Expr}{t:TAd}(h:zg E T tg e=some t):PI X tg e (LI X.K Jx t):=by
 have wk:(E e).map dU=some t->PI X tg e (LI X.K Jx t):=fun h=>by
  obtain⟨ta,h1,rfl⟩:=aa.mp h;exact dU.ok (ih h1)
 unfold zg at h;split at h
 ·rename_i x p1 a p2;by_cases ex:x = "range"
  ·subst ex;obtain⟨hn,h⟩:=ac.mp (show (if jd a && T.isG "range" then (E a).map fH else none)=some t from h);obtain⟨n1,n2⟩:=ae.mp hn;obtain⟨ta,h1,rfl⟩:=aa.mp h;exact fH.ok (C.isG n2).1 C.bl.range (ih h1) (iX n1 _ _)
  ·rw [if_neg ex] at h;by_cases ex:x = "enumerate"
   ·subst ex;cases tg <;> first|(cases h;done)|skip
    obtain⟨hn,h⟩:=ac.mp (show (if jd a && T.isG "enumerate" then (E a).map fX else none)=some t from h);obtain⟨n1,n2⟩:=ae.mp hn;obtain⟨ta,h1,rfl⟩:=aa.mp h;exact fX.ok (C.isG n2).1 C.bl.enumerate (ih h1) (iX n1 _ _)
   ·rw [if_neg ex] at h;by_cases ex:x = "reversed"
    ·subst ex;obtain⟨hn,h⟩:=ac.mp (show (if jd a && T.isG "reversed" then (E a).map gu else none)=some t from h);obtain⟨n1,n2⟩:=ae.mp hn;obtain⟨ta,h1,rfl⟩:=aa.mp h;exact gu.ok (C.isG n2).1 C.bl.reversed (ih h1) (iX n1 _ _)
    ·rw [if_neg ex] at h;exact wk h
 ·rename_i x p1 a b p2;by_cases ex:x = "range"
  ·subst ex;obtain⟨hn,h⟩:=ac.mp (show (if jd a && jd b && T.isG "range" then (E a).bind fun ta=>(E b).map (gr ta) else none)=some t from h);obtain⟨n1,n2⟩:=ae.mp hn;obtain⟨n0,n1⟩:=ae.mp n1;obtain⟨ta,h1,h⟩:=ad.mp h;obtain⟨tb,h2,rfl⟩:=aa.mp h;exact gr.ok (C.isG n2).1 C.bl.range (ih h1) (ih h2) (by rw [iX n0,iX n1];rfl) (iX n1 _ _)
  ·rw [if_neg ex] at h;exact wk h
 ·exact wk h
theorem pq{I:Option TAd}{e tg:Expr}{ifs:List Expr}{sc:Scope}{t:TEd}(C:CtxOk T X Jx)(h:rN I E F T e tg ifs sc=some t)(ih:∀ s2 H2 fp pins A,mt (kq X sc s2 H2 fp pins A) Jx E)(ihF:∀ s2 H2 fp pins A,BK (kq X sc s2 H2 fp pins A) Jx F) :
  ∃ ti g te tk,I=some ti/\t=eh ti (jM T.N sc) g tk te/\(∀ i∈g.tg,i∈jM T.N sc)/\(∀ s2 H2 fp pins A,PG (kq X sc s2 H2 fp pins A) tg (LG X.K Jx g))/\(∀ s2 H2 fp pins A,PTs (kq X sc s2 H2 fp pins A) ifs (LT X.K Jx tk))/\∀ s2 H2 fp pins A,PE (kq X sc s2 H2 fp pins A) e (LE X.K Jx te):=by
 obtain⟨ti,h1,h⟩:=ad.mp h;obtain⟨g,h2,h⟩:=ad.mp h;obtain⟨hg,h⟩:=ac.mp h;obtain⟨te,h3,h⟩:=ad.mp h;have hh:∀ i∈g.tg,i∈jM T.N sc:=fun i hi=>by simpa using aP.mp hg i hi
 match ifs,h with
 | [],h =>
  cases h;exact⟨ti,g,te,gv,h1,rfl,hh,fun _ _ _ _ _=>pN (C.inner ..) h2,fun _ _ _ _ _=>pts_nil.weak fun σ H Q ⟨f,O,ss,S,q⟩=>q H (Ex.refl S.fl),fun _ _ _ _ _=>ih _ _ _ _ _ h3⟩
 | [k],h =>
  obtain⟨tk,h4,rfl⟩:=aa.mp h;exact⟨ti,g,te,tk,h1,rfl,hh,fun _ _ _ _ _=>pN (C.inner ..) h2,fun _ _ _ _ _=>vW (ihF _ _ _ _ _ h4),fun _ _ _ _ _=>ih _ _ _ _ _ h3⟩
 | _::_::_,h=>cases h
theorem rE{gs:List Comprehension}{tg it:Expr}{ifs:List Expr}(h:uX gs=some (tg,it,ifs)):gs=[⟨tg,it,ifs,0⟩]/\jd it=true:=by
 unfold uX at h;split at h
 ·obtain⟨hn,h⟩:=ac.mp h;cases h;exact⟨rfl,hn⟩
 ·cases h
structure TrOk (n:Nat):Prop where
 e:∀{T:Tc} {X:Cx} {Jx:Hp->Prop},CtxOk T X Jx->mt X Jx (jr n T)
 t:∀{T:Tc} {X:Cx} {Jx:Hp->Prop},CtxOk T X Jx->BK X Jx (oD n T)
 w:∀{T:Tc} {X:Cx} {Jx:Hp->Prop} {op:BoolOp} {vs:List Expr} {p:Pos} {t:TTd},CtxOk T X Jx->oD n T (.BoolOp op vs p)=some t->PW X (.BoolOp op vs p) (LT X.K Jx t)
theorem qL(ih:mt X Jx E){t:TTd}(hb:xU e=true)(h:(E e).map fj=some t):PT X e (LT X.K Jx t):=by
 obtain⟨ta,h1,rfl⟩:=aa.mp h;exact fj.ok (ih h1) fun w=>vm hb _ w
theorem kJ:∀ n,TrOk n
 | 0=>⟨fun _ _ _ h=>(by cases h),fun _ _ _ h=>(by cases h),fun _ h=>(by cases h)⟩
 | n+1=>by
  have ih:=kJ n;have hw:∀{T:Tc} {X:Cx} {Jx:Hp->Prop} {op:BoolOp} {vs:List Expr} {p:Pos} {t:TTd},CtxOk T X Jx->oD (n+1) T (.BoolOp op vs p)=some t->PW X (.BoolOp op vs p) (LT X.K Jx t):=fun C h=>zB (ih.t C) (ih.w C) h;refine⟨fun {T X Jx} C {e t} h=>?_,fun {T X Jx} C {e t} h=>?_,hw⟩
  ·cases e <;> first|(cases h;done)|skip
   case Name x p =>
    have h:Ce T x=some t:=h;unfold Ce at h;cases hs:T.slot x with
    | some i =>
     rw [hs] at h;cases h;exact c9.ok (C.var hs)
    | none =>
     rw [hs] at h;obtain⟨hg,h⟩:=ac.mp h;obtain⟨d,h1,rfl⟩:=aa.mp h;exact A5 C hg h1
   case Constant k j p =>
    obtain⟨d,h1,rfl⟩:=aa.mp (show (BO k).map dC=some t from h);exact yc h1
   case BinOp a op b p =>
    obtain⟨ta,tb,h1,h2,rfl⟩:=kW (show two (jr n T) a b (dm op)=some t from h);exact dm.ok C.room (ih.e C h1) (ih.e C h2)
   case Compare=>exact xg C (ih.e C) h
   case UnaryOp=>exact x8 (ih.e C) h
   case BoolOp=>exact zC (ih.e C) h
   case IfExp k a b p =>
    obtain⟨tk,h0,h⟩:=ad.mp (show (oD n T k).bind (fun tk=>two (jr n T) a b (ia tk))=some t from h);obtain⟨ta,tb,h1,h2,rfl⟩:=kW h;exact ia.ok (ih.t C h0) (ih.e C h1) (ih.e C h2)
   case Tuple es k p =>
    obtain⟨ta,h1,rfl⟩:=aa.mp (show (jZ (jr n T) es).map dJ=some t from h);exact dJ.ok (jn (ih.e C) h1)
   case List es p =>
    obtain⟨ta,h1,rfl⟩:=aa.mp (show (jZ (jr n T) es).map dO=some t from h);exact dO.ok (jn (ih.e C) h1)
   case Subscript=>exact vM C (ih.e C) h
   case Call g as ks p =>
    exact qB C (ih.e C) h
   case Attribute a x p=>exact wW C (ih.e C) h
   case ListComp e gs sc p =>
    obtain⟨hs,h⟩:=ac.mp (show (if tS T.sc sc then (uX gs).bind fun (tg,it,ifs)=>rN (zg (jr n T) T tg it) (jr n { T with sc:=sc,xt:=T.xt.inn }) (oD n { T with sc:=sc,xt:=T.xt.inn }) T e tg ifs sc else none)=some t from h);obtain⟨⟨tg,it,ifs⟩,h1,h2⟩:=ad.mp h;obtain⟨rfl,hn⟩:=rE h1;obtain⟨ti,g,te,tk,q1,rfl,q2,q3,q4,q5⟩:=pq C h2 (fun _ _ _ _ _=>ih.e (C.inner ..)) (fun _ _ _ _ _=>ih.t (C.inner ..));exact eh.ok C.calm (C.compS hs) (qk C (ih.e C) q1) q3 q4 q5 (fun x=>k7 hn _ x) q2
  ·cases e;case Compare=>exact xb C (ih.e C) h
   case UnaryOp op a p =>
    have h:(if op = .Not then (oD n T a).map eI else (jr n T (.UnaryOp op a p)).map fj)=some t:=h;by_cases eo:op = .Not
    ·subst eo;obtain⟨ta,h1,rfl⟩:=aa.mp (show (oD n T a).map eI=some t from h);exact eI.ok (ih.t C h1)
    ·rw [if_neg eo] at h;refine qL (ih.e C) ?_ h;cases op <;> first|rfl|exact absurd rfl eo
   case BoolOp=>exact (hw C h).pt
   case IfExp=>cases h
   all_goals exact qL (ih.e C) rfl h
end
section
open PySem L2 Dp
variable{K:Frag}{Jx:Hp->Prop}{X:Cx}{T:Tc}{pos:Pos}
structure CtxS (T:Tc)(X:Cx)(Jx:Hp->Prop):Prop extends CtxOk T X Jx where
 scope:X.env.scope=T.sc
 bk:X.env.blockKind = .function
 xe:T.xt.lp=true->X.xe=fun _ _=>False
 fnT:∀ x,X.fn x=true
 ro:T.xt.lp=false->∃ EX,mo X EX/\∀ H',Jx H'->tD T.xt.E EX H'
 stk:X.stack=X.env::X.outer/\X.env.frame=some X.env.locals
theorem CtxS.L(C:CtxS T X Jx){x:Str}(h:tE (T.sc.names.lookup x)=true):pC X.env.scope x:=by
 unfold L2.pC;rw [C.scope];cases q:T.sc.names.lookup x with
 | none=>rw [q] at h;cases h
 | some k=>rw [q] at h;cases k <;> first|exact .inl rfl|exact .inr rfl|cases h
theorem iP.ok{fz:List Nat}{scope:Scope}{hide:List Nat}{it:TAd}{g:TGd}{c:TTd}{e:TEd}{tg iter elt:Expr}{ifs:List Expr}{i:Nat}{y:Str}{py ep:Pos}(hc:X.calm=true)(hN:X.N.Nodup)(hy:X.N[i]? = some y)(hl:pC X.env.scope y)(Sc:CompS X.N X.env.scope scope hide)(hi:PI X tg iter (LI X.K Jx it))
  (hg:∀ s2 H2 fp pins C,PG (kq X scope s2 H2 fp pins C) tg (LG X.K Jx g)) (ht:∀ s2 H2 fp pins C,PTs (kq X scope s2 H2 fp pins C) ifs (LT X.K Jx c)) (he:∀ s2 H2 fp pins C,PE (kq X scope s2 H2 fp pins C) elt (LE X.K Jx e))
  (hs:∀ x,foldedSetIterable iter X.env x=pure x) (hh:∀ i∈g.tg,i∈hide) (hsw:swapsWith (.ListComp elt [⟨tg,iter,ifs,0⟩] scope ep) (some (.Name y py)) pos.line X.env=pure true) (hf:X.fn y=true\/X.env.scope.names.lookup y=some .local) :
  PS X (.Assign [.Name y py] (.ListComp elt [⟨tg,iter,ifs,0⟩] scope ep) pos) (LS X.K Jx (du fz (gNm i) (eh it hide g c e))) :=
 (vX (spos:=pos) hc hN hy hl Sc hi hg ht he hs hsw hf).weak fun D σ H ⟨c0,O,ss,R,q⟩=>by
  obtain⟨O',R⟩:=R.frz (fz:=fz);refine⟨c0.f,O',_,R.sl,it.mono (fun ds q J H1 e1 D0=>?_) q⟩;refine compD.ok (R.sl.ex e1) hh D0 (compD.mono (fun d q v H' e r=>?_) q);have R2:=R.ex (e1.trans e);exact q O' _ H' (R2.to (R2.sl.set r) Sub.set)
def B2(T:Tc)(x:Str)(px ep:Pos)(sc:Scope):Bool:=(T.sc.names.lookup x == some .local) && (px.line == ep.line) && !(sc.names.any fun (n,k)=>n == x && (k == .local || k == .cell))
theorem tQ(C:CtxS T X Jx){e:Expr}{gs:List Comprehension}{x:Str}{px ep:Pos}{sc:Scope}{l:Nat}:swapsWith (.ListComp e gs sc ep) (some (.Name x px)) l X.env=pure (B2 T x px ep sc):=by
 unfold swapsWith B2;show (pure (X.env.blockKind == .function && X.env.kindOf x == some .local && px.line == ep.line && !(sc.names.any fun (n,k)=>n == x && (k == .local || k == .cell))):Sem Bool)=_;rw [C.bk];unfold Env.kindOf;rw [C.scope];rfl
def ur(T:Tc)(x y:Str)(px py:Pos)(a b:Expr):Bool:=jd a && jd b && (T.sc.names.lookup x == some .local) && (T.sc.names.lookup y == some .local) && (py.line == px.line) && !(x == y) && !(foldedForSure 8 a && foldedForSure 8 b) && !(constantsAlone 8 a && constantsAlone 8 b)
theorem uj(C:CtxS T X Jx){x y:Str}{px py pt pt2:Pos}{a b:Expr}{kt k2:Nat}(h:ur T x y px py a b=true):swappedStores [.Tuple [.Name x px,.Name y py] kt pt] (.Tuple [a,b] k2 pt2) X.env=pure (some [x,y]):=by
 unfold ur at h;simp only [aC,aY] at h;obtain⟨⟨⟨⟨⟨⟨⟨h1,h2⟩,h3⟩,h4⟩,h5⟩,h6⟩,h7⟩,h8⟩:=h;have s1:∀{e:Expr},jd e=true->(match e with | .Starred .. => true|_=>false)=false:=fun {e} h=>by cases e <;> first|rfl|cases h
 have k1:X.env.kindOf x == some .local:=by unfold Env.kindOf;rw [C.scope];exact h3
 have k2:X.env.kindOf y == some .local:=by unfold Env.kindOf;rw [C.scope];exact h4
 have n1:(y == x)=false:=by
  cases q:y == x with
  | false=>rfl
  | true =>
   have:=eq_of_beq q;subst this;rw [beq_self_eq_true] at h6;cases h6
 have k1':=eq_of_beq k1;have k2':=eq_of_beq k2;have h5':py.line=px.line:=eq_of_beq h5;have ed:([x,y]:List Str).eraseDups=[x,y]:=by
  rw [List.eraseDups_cons];simp [n1];rfl
 unfold swappedStores;have ep:∀(x:Str) (p:Pos),(Expr.Name x p).pos=p:=fun _ _=>rfl;simp [C.bk,bD,cR,k1',k2',ep,h5',ed];rw [if_neg,if_neg,if_neg]
 ·rintro⟨q1,q2⟩;rw [q1,q2] at h8;cases h8
 ·rintro⟨q1,q2⟩;rw [q1,q2] at h7;cases h7
 ·rintro (q|q)
  ·cases a <;> first|(cases h1;done)|cases q
  ·cases b <;> first|(cases h2;done)|cases q
def qz(T:Tc)(x y:Str)(a b:Expr):Bool:=!((T.sc.names.lookup x == some .local) && (T.sc.names.lookup y == some .local)) || (foldedForSure 8 a && foldedForSure 8 b)
theorem s9(C:CtxS T X Jx){x y:Str}{px py pt pt2:Pos}{a b:Expr}{kt k2:Nat}(h:qz T x y a b=true):swappedStores [.Tuple [.Name x px,.Name y py] kt pt] (.Tuple [a,b] k2 pt2) X.env=pure none:=by
 unfold qz at h;rcases cO.mp h with h|h
 ·have h:(X.env.kindOf x == some .local)=false\/(X.env.kindOf y == some .local)=false:=by
   unfold Env.kindOf;rw [C.scope];revert h;cases T.sc.names.lookup x == some .local <;> cases T.sc.names.lookup y == some .local <;> simp
  unfold swappedStores;simp only [bD,cR];rcases h with h|h <;> simp only [h,cw,a9,if_false];all_goals (split <;> first|rfl|skip)
  all_goals (split <;> first|rfl|skip)
  all_goals (repeat' split) <;> first|rfl|simp_all
 ·have e:[a,b].all (foldedForSure 8)=true:=by
   show (foldedForSure 8 a && (foldedForSure 8 b && true))=true;rw [Bool.and_true];exact h
  unfold swappedStores;dsimp only;rw [if_pos e];repeat' split
  all_goals rfl
def nM:Expr->Option (Str×Str×Pos×List Expr×Pos)
 | .Call (.Attribute (.Name x _) m ap) as [] cp=>if ap.endLine == cp.line then some (x,m,ap,as,cp) else none
 | _=>none
theorem mT{e:Expr}{x m:Str}{ap cp:Pos}{as:List Expr}(h:nM e=some (x,m,ap,as,cp)):(∃ p,e = .Call (.Attribute (.Name x p) m ap) as [] cp)/\(ap.endLine == cp.line)=true:=by
 unfold nM at h;split at h
 ·obtain⟨hl,h⟩:=ac.mp h;cases h;exact⟨⟨_,rfl⟩,hl⟩
 ·cases h
def wC(E:FE)(T:Tc)(x:Str)(as:List Expr):Option TEd:=match T.gn.lookup x with
 | some (j,s)=>if decide (j<=T.k) && T.isG x then (jZ E as).map (dh s) else none
 | none=>none
def wB(E:FE)(T:Tc):Expr->Option TEd
 | .List es _=>(jZ E es).map dO
 | .BinOp a .Mult b _=>two E a b (dm .Mult)
 | .Call (.Name x _) [a] [] _=>if x = "list" then (if jd a && T.isG "list" then (E a).map fq else none) else wC E T x [a]
 | .Call (.Name x _) [a,b] [] _=>wC E T x [a,b]
 | _=>none
def xP:Expr->Bool
 | .Tuple .. => true|_=>false
def rA:Expr->Bool
 | .Dict [] [] _=>true|_=>false
theorem uO{e:Expr}(h:rA e=true):∃ p,e = .Dict [] [] p:=by
 unfold rA at h;split at h
 ·exact⟨_,rfl⟩
 ·cases h
def Bi(T:Tc)(p:Pos)(i:Nat):TSd:=if (T.fz.lookup (p.line+3000000)).isSome then gy i else iF i
def C4(T:Tc)(p:Pos)(t:TEd):TSd:=if (T.fz.lookup (p.line+3000000)).isSome then dDo [] (eF t) else dDo (T.frz p) t
def q8(E:FE)(T:Tc):Expr->Option TEd
 | .Call (.Name x _) (a::r) [] _=>match T.xt.gd.lookup x with
  | some (j,s)=>if decide (j<=T.k) && T.isG x then (jZ E (a::r)).map (dh s) else none
  | none=>none
 | _=>none
def BF(n:Nat)(T:Tc)(p:Pos)(i:Nat)(e:Expr):Option TSd:=match nM e with
 | some (y,m,_,as,_)=>if m = "pop" then (match as with
  | []=>(T.slot y).map (gS i)
  | _=>none) else (jr n T e).map (du (T.frz p) (gNm i))
 | none=>if T.own.contains p.line then (if rA e then some (f6 i) else (match q8 (jr n T) T e with|some t=>some (il i t)|none=>(wB (jr n T) T e).map (gG (T.frz p) i))) else if (T.pk p).isEmpty then (jr n T e).map (du (T.frz p) (gNm i)) else if jB e then none else (jr n T e).map (gV (T.pk p) i)
def uq:List Expr->Expr->Option (Str×Pos×Str×Pos×Expr×Expr)
 | [.Name x px,.Name y py],.Tuple [a,b] _ _=>some (x,px,y,py,a,b)
 | _,_=>none
theorem uk{es:List Expr}{e a b:Expr}{x y:Str}{px py:Pos}(h:uq es e=some (x,px,y,py,a,b)):es=[.Name x px,.Name y py]/\∃ k p,e = .Tuple [a,b] k p:=by
 unfold uq at h;split at h
 ·cases h;exact⟨rfl,_,_,rfl⟩
 ·cases h
def x9(n:Nat)(T:Tc)(p:Pos)(es:List Expr)(e:Expr):Option TSd:=match uq es e with
 | some (x,px,y,py,a,b)=>if ur T x y px py a b then (T.slot x).bind fun i=>(T.slot y).bind fun j=>(if T.own.contains p.line then (wB (jr n T) T a).bind fun ta=>(jr n T b).map (gU (T.frz p) i j ta) else (jr n T a).bind fun ta=>(jr n T b).map (ii (T.frz p) i j ta)) else if qz T x y a b then (pM T es).bind fun is=>(jr n T e).map (du (T.frz p) (gTp is)) else none
 | none=>if xP e || jB e then none else (pM T es).bind fun is=>(jr n T e).map (du (T.frz p) (gTp is))
def ym(T:Tc)(p:Pos)(i:Nat)(k e:TEd):TSd:=if (T.fz.lookup (p.line+3000000)).isSome then et i k (eF e) else gT (T.frz p) i k e
def Bn(n:Nat)(T:Tc)(p:Pos)(e:Expr):Expr->Option TSd
 | .Name x _=>if tE (T.sc.names.lookup x)=true then (T.slot x).bind fun i=>BF n T p i e else none
 | .Subscript a k _=>(match a with
  | .Name x _=>if jd k && !jB e then (T.slot x).bind fun i=>(jr n T k).bind fun tk=>(jr n T e).map (ym T p i tk) else none
  | _=>none)
 | .Tuple es _ _=>x9 n T p es e
 | _=>none
def Cv(n:Nat)(T:Tc)(p:Pos)(e:Expr):Option TSd:=match nM e with
 | some (x,m,_,as,_)=>if m = "append" then (match as with
   | [e]=>(if jd e then (T.slot x).bind fun i=>(jr n T e).map (gH (T.frz p) i) else none)
   | _=>none)
  else if m = "pop" then (if as.isEmpty then (T.slot x).map iE else none)
  else if m = "extend" then (match as with
   | [e]=>if jd e then (T.slot x).bind fun i=>(jr n T e).map (fY (T.frz p) i) else none
   | _=>none)
  else if m = "clear" then (if as.isEmpty then (T.slot x).map (Bi T p) else none) else none
 | none=>if jB e then none else (jr n T e).map (C4 T p)
def Cq(T:Tc)(p:Pos)(k:TTd)(a b:TSd):TSd:=if (T.pk p).isEmpty then dIf (T.frz p) k a b else fI (T.pk p) k a b
def xQ:Operator->Bool
 | .Add=>true
 | _=>false
theorem uQ:∀{op:Operator},xQ op=true->op = .Add
 | .Add,_=>rfl
def zF(T:Tc)(p:Pos)(i:Nat)(op:Operator)(t:TEd):TSd:=if T.mu.contains i && xQ op then fY (T.frz p) i t else ik (T.frz p) i op t
def ya(n:Nat)(T:Tc):List Stmt->List ExceptHandler->Option TSd
 | [.Return (some (.Call (.Name g _) (a::as) [] _)) _],[.ExceptHandler (some (.Name cl _)) (some nm) [.Assign [.Name y _] (.Name z _) _] _] =>
  if z=nm && T.isG cl && (T.sc.names.lookup nm == some .local) && (T.sc.names.lookup y == some .local) then (match T.xt.xm.lookup cl with
   | some (_,m)=>(T.slot g).bind fun gi=>(T.slot nm).bind fun j=>(T.slot y).bind fun i=>if i≠j && T.xt.tab.all (fun t=>t.2.1<=T.k) then (jZ (jr n { T with xt:=T.xt.inn }) (a::as)).map (iH T.xt.tab m i j gi) else none
   | none=>none) else none
 | _,_=>none
def BM(T:Tc)(p:Pos)(k:TTd)(t:TSd):TSd:=if (T.fz.lookup (p.line+4000000)).isSome then dY (g9 k) t else dY k t
mutual
def Aa:Nat->Tc->Stmt->Option TSd
 | 0,_,_=>none
 | n+1,T,st=>match st with
  | .Return o p=>(match o with
   | some e=>(jr n T e).map (dq (T.frz p))
   | none=>some gR)
  | .Pass _=>some dj
  | .Break _=>some iD
  | .Expr e p=>Cv n T p e
  | .Assign tgs e p=>(match tgs with
   | [tg]=>Bn n T p e tg
   | _=>none)
  | .AugAssign tg op e p=>(match tg with
   | .Name x _=>if tE (T.sc.names.lookup x)=true then (T.slot x).bind fun i=>(jr n T e).map (zF T p i op) else none
   | .Subscript a k _=>(match a with
    | .Name x _=>if jd k then (T.slot x).bind fun i=>(jr n T k).bind fun tk=>(jr n T e).map (gw (T.frz p) i tk op) else none
    | _=>none)
   | _=>none)
  | .If k a b p=>(oD n T k).bind fun tk=>(mw n T a).bind fun ta=>(mw n T b).map fun tb=>Cq T p tk ta tb
  | .While k a r p=>(match r with
   | []=>if T.xt.lp then (oD n T k).bind fun tk=>if (T.fz.lookup (p.line+2000000)).isSome then some (dY tk d7) else (mw n T a).map (BM T p tk) else none
   | _=>none)
  | .For tg it a r p=>(match r with
   | []=>if jd it && T.xt.lp then (zg (jr n T) T tg it).bind fun ti=>(Bz T tg).bind fun g=>(mw n T a).map (eE (T.frz p) ti g) else none
   | _=>none)
  | .Raise (some (.Call (.Name nm _) [a] [] _)) none _=>if T.xt.lp then some d7 else if T.isG nm && jd a then (match T.xt.xc.lookup nm with
   | some (i,C,y)=>if i+1<=T.k then (jZ (jr n T) [a]).map (fu T.xt.E C y) else none
   | none=>none) else none
  | .Try b hs [] [] _=>ya n T b hs
  | _=>none
def mw:Nat->Tc->List Stmt->Option TSd
 | 0,_,_=>none
 | n+1,T,sts=>match sts with
  | []=>some dj
  | st::r=>(match r with
   | []=>Aa n T st
   | _=>(Aa n T st).bind fun t=>(mw n T r).map (dSq t))
end
theorem q9(C:CtxOk T X Jx){E:FE}(ih:mt X Jx E){x:Str}{a:Expr}{as:List Expr}{t:TEd}{p pos:Pos}(h:wC E T x (a::as)=some t):PE X (.Call (.Name x p) (a::as) [] pos) (LF X.K Jx t):=by
 unfold wC at h;cases e1:T.gn.lookup x with
 | none=>rw [e1] at h;cases h
 | some js =>
  obtain⟨j,s⟩:=js;rw [e1] at h;obtain⟨hk,h⟩:=ac.mp h;obtain⟨k1,k2⟩:=ae.mp hk;obtain⟨tb,h2,rfl⟩:=aa.mp h;obtain⟨g1,g2⟩:=C.isG k2;obtain⟨ps,d⟩:=C.gn x j s (i9 e1);exact dh.okF (lX d C.room (jn ih h2) (of_decide_eq_true k1) g1 g2 (jm h2) (jv h2))
theorem qZ(C:CtxOk T X Jx){E:FE}(ih:mt X Jx E){e:Expr}{t:TEd}(h:wB E T e=some t):PE X e (LF X.K Jx t)/\jB e=false:=by
 unfold wB at h;split at h
 ·obtain⟨ta,h1,rfl⟩:=aa.mp h;exact⟨dO.okF (jn ih h1),rfl⟩
 ·obtain⟨ta,tb,h1,h2,rfl⟩:=kW h;exact⟨iQ.okF (ih h1) (ih h2),rfl⟩
 ·rename_i x p1 a p2;by_cases ex:x = "list"
  ·rw [if_pos ex] at h;obtain⟨hn,h4⟩:=ac.mp h;obtain⟨n1,n2⟩:=ae.mp hn;obtain⟨ta,h1,rfl⟩:=aa.mp h4;subst ex;exact⟨fq.okF (C.isG n2).1 C.bl.list (ih h1) (iX n1 _ _),rfl⟩
  ·rw [if_neg ex] at h;exact⟨q9 C ih h,rfl⟩
 ·exact⟨q9 C ih h,rfl⟩
 ·cases h
theorem uD(C:CtxOk T X Jx){E:FE}(ih:mt X Jx E){e:Expr}{t:TEd}(h:q8 E T e=some t):PE X e (CM X.K Jx t)/\jB e=false:=by
 unfold q8 at h;split at h
 ·rename_i x p a r p2;cases e1:T.xt.gd.lookup x with
  | none=>rw [e1] at h;cases h
  | some js =>
   obtain⟨j,s⟩:=js;rw [e1] at h;obtain⟨hk,h⟩:=ac.mp h;obtain⟨k1,k2⟩:=ae.mp hk;obtain⟨tb,h2,rfl⟩:=aa.mp h;obtain⟨g1,g2⟩:=C.isG k2;obtain⟨ps,d⟩:=C.xt.gd x j s (i9 e1);exact⟨dh.okC (lX d C.room (jn ih h2) (of_decide_eq_true k1) g1 g2 (jm h2) (jv h2)),rfl⟩
 ·cases h
theorem j5{e:Expr}(h:jB e=false)(t:Expr)(l:Nat)(env:Env):swapsWithSole [t] e l env=pure false:=jg h (some t) l env
theorem tM{n:Nat}(C:CtxOk T X Jx){e:Expr}{gs:List Comprehension}{sc:Scope}{p:Pos}{t:TEd}(h:jr n T (.ListComp e gs sc p)=some t):∃ tg it ifs ti g te tk,gs=[⟨tg,it,ifs,0⟩]/\jd it=true/\CompS X.N X.env.scope sc (jM T.N sc)/\PI X tg it (LI X.K Jx ti)/\t=eh ti (jM T.N sc) g tk te/\(∀ i∈g.tg,i∈jM T.N sc)/\(∀ s2 H2 fp pins A,PG (kq X sc s2 H2 fp pins A) tg (LG X.K Jx g))/\(∀ s2 H2 fp pins A,PTs (kq X sc s2 H2 fp pins A) ifs (LT X.K Jx tk))/\∀ s2 H2 fp pins A,PE (kq X sc s2 H2 fp pins A) e (LE X.K Jx te):=by
 cases n with
 | zero=>cases h
 | succ n =>
  have ih:=kJ n;obtain⟨hs,h⟩:=ac.mp (show (if tS T.sc sc then (uX gs).bind fun (tg,it,ifs)=>rN (zg (jr n T) T tg it) (jr n { T with sc:=sc,xt:=T.xt.inn }) (oD n { T with sc:=sc,xt:=T.xt.inn }) T e tg ifs sc else none)=some t from h);obtain⟨⟨tg,it,ifs⟩,h1,h2⟩:=ad.mp h;obtain⟨rfl,hn⟩:=rE h1;obtain⟨ti,g,te,tk,q1,q0,q2,q3,q4,q5⟩:=pq C h2 (fun _ _ _ _ _=>ih.e (C.inner ..)) (fun _ _ _ _ _=>ih.t (C.inner ..));exact⟨tg,it,ifs,ti,g,te,tk,rfl,hn,C.compS hs,qk C (ih.e C) q1,q0,q2,q3,q4,q5⟩
theorem y0{n:Nat}(C:CtxS T X Jx){i:Nat}{x:Str}{e:Expr}{t:TSd}{px p:Pos}(hl:tE (T.sc.names.lookup x)=true)(hs:T.slot x=some i)(h:BF n T p i e=some t):PS X (.Assign [.Name x px] e p) (LS X.K Jx t):=by
 have ih:mt X Jx (jr n T):=(kJ n).e C.toCtxOk;have hf:X.fn x=true\/X.env.scope.names.lookup x=some .local:=.inl (C.fnT x);unfold BF at h;split at h
 ·rename_i y m ap as cp em;obtain⟨⟨p1,rfl⟩,hn⟩:=mT em;by_cases hm:m = "pop"
  rotate_left
  ·rw [if_neg hm] at h;obtain⟨ta,h1,rfl⟩:=aa.mp h;exact iK.ok C.nd (C.slot hs) (C.L hl) (ih h1) (jg rfl _ _ _) hf
  subst hm;rw [if_pos rfl] at h;have h3:=h;clear h;match as,h3 with
  | [],h3 =>
   obtain⟨j,h1,rfl⟩:=aa.mp h3;exact gS.ok C.nd (C.slot hs) (C.L hl) hf (C.var h1) rfl hn rfl
  | _::_,h3=>cases h3
 ·by_cases ho:T.own.contains p.line=true
  ·rw [if_pos ho] at h;by_cases hd:rA e=true
   ·rw [if_pos hd] at h;obtain⟨pd,rfl⟩:=uO hd;cases h;exact f6.ok C.nd (C.slot hs) (C.L hl) (jg rfl _ _ _) hf
   rw [if_neg hd] at h;cases ed:q8 (jr n T) T e with
   | some t' =>
    rw [ed] at h;cases h;obtain⟨q1,q2⟩:=uD C.toCtxOk ih ed;exact il.ok C.nd (C.slot hs) (C.L hl) q1 (jg q2 _ _ _) hf
   | none =>
   rw [ed] at h;obtain⟨ta,h1,rfl⟩:=aa.mp h;obtain⟨q1,q2⟩:=qZ C.toCtxOk ih h1;exact gG.ok C.nd (C.slot hs) (C.L hl) q1 (jg q2 _ _ _) hf
  ·rw [if_neg ho] at h;by_cases hk:(T.pk p).isEmpty=true
   rotate_left
   ·rw [if_neg hk] at h;obtain⟨hc,h⟩:=bq.mp h;obtain⟨ta,h1,rfl⟩:=aa.mp h;exact gV.ok C.nd (C.slot hs) (C.L hl) (ih h1) (jg (by simpa using hc) _ _ _) hf
   rw [if_pos hk] at h;obtain⟨ta,h1,rfl⟩:=aa.mp h;have gen:jB e=false->PS X (.Assign [.Name x px] e p) (LS X.K Jx (du (T.frz p) (gNm i) ta)):=fun hc=>iK.ok C.nd (C.slot hs) (C.L hl) (ih h1) (jg hc _ _ _) hf;cases e;case ListComp e gs sc ep hmm =>
    obtain⟨tg,it,ifs,ti,g,te,tk,rfl,hn,q0,qi,rfl,q2,q3,q4,q5⟩:=tM C.toCtxOk h1;cases sw:B2 T x px ep sc with
    | false=>exact iK.ok C.nd (C.slot hs) (C.L hl) (ih h1) (by rw [tQ C,sw]) hf
    | true=>exact iP.ok C.calm C.nd (C.slot hs) (C.L hl) q0 qi q3 q4 q5 (fun x=>k7 hn _ x) q2 (by rw [tQ C,sw]) hf
   case SetComp=>cases n <;> cases h1
   case DictComp=>cases n <;> cases h1
   all_goals exact gen rfl
theorem vG{n:Nat}(C:CtxS T X Jx){es:List Expr}{e:Expr}{t:TSd}{p pt:Pos}{kt:Nat}(h:x9 n T p es e=some t):PS X (.Assign [.Tuple es kt pt] e p) (LS X.K Jx t):=by
 have ih:mt X Jx (jr n T):=(kJ n).e C.toCtxOk;unfold x9 at h;split at h
 ·rename_i x px y py a b eo;obtain⟨rfl,k,p2,rfl⟩:=uk eo;by_cases hp:ur T x y px py a b=true
  rotate_left
  ·rw [if_neg hp] at h;obtain⟨hc,h⟩:=ac.mp h;obtain⟨is,h1,h⟩:=ad.mp h;obtain⟨ta,h2,rfl⟩:=aa.mp h;obtain⟨q1,q2,q3⟩:=lD C.toCtxOk h1;exact du.ok (ih h2) (gTp.ok (pS C.calm q1 q2 q3)) (j5 rfl _ _ _) (s9 C hc) rfl
  rw [if_pos hp] at h;obtain⟨i,h1,h⟩:=ad.mp h;obtain⟨j,h2,h⟩:=ad.mp h;have hp':=hp;unfold ur at hp';simp only [aC,aY] at hp';obtain⟨⟨⟨⟨⟨⟨⟨w1,w2⟩,w3⟩,w4⟩,w5⟩,w6⟩,w7⟩,w8⟩:=hp';have ne:i≠j:=by
   rintro rfl;have a1:=C.slot h1;have a2:=C.slot h2;rw [a1] at a2;cases a2;rw [beq_self_eq_true] at w6;cases w6
  by_cases ow:T.own.contains p.line=true
  ·rw [if_pos ow] at h;obtain⟨ta,h3,h⟩:=ad.mp h;obtain⟨tb,h4,rfl⟩:=aa.mp h;exact (t6 (pos:=p) C.calm C.nd (C.slot h1) (C.slot h2) ne (C.loc _ (eq_of_beq w3)) (C.loc _ (eq_of_beq w4)) (iS (qZ C.toCtxOk ih h3).1 (iS (ih h4) pa_nil (iX w2 _ _)) (iX w1 _ _)) (uj C hp) rfl).weak fun D σ H q=>gU.weak q
  ·rw [if_neg ow] at h;obtain⟨ta,h3,h⟩:=ad.mp h;obtain⟨tb,h4,rfl⟩:=aa.mp h;exact (t6 (pos:=p) C.calm C.nd (C.slot h1) (C.slot h2) ne (C.loc _ (eq_of_beq w3)) (C.loc _ (eq_of_beq w4)) (iS (ih h3) (iS (ih h4) pa_nil (iX w2 _ _)) (iX w1 _ _)) (uj C hp) rfl).weak fun D σ H q=>ii.weak q
 ·obtain⟨hn,h⟩:=bq.mp h;obtain⟨is,h1,h⟩:=ad.mp h;obtain⟨ta,h2,rfl⟩:=aa.mp h;obtain⟨q1,q2,q3⟩:=lD C.toCtxOk h1;have hn2:xP e=false/\jB e=false:=by simpa using hn
  refine du.ok (ih h2) (gTp.ok (pS C.calm q1 q2 q3)) (j5 hn2.2 _ _ _) ?_ rfl;have:=hn2.1;cases e <;> first|rfl|cases this
theorem xn{n:Nat}(C:CtxS T X Jx){tg e:Expr}{t:TSd}{p:Pos}(h:Bn n T p e tg=some t):PS X (.Assign [tg] e p) (LS X.K Jx t):=by
 have ih:mt X Jx (jr n T):=(kJ n).e C.toCtxOk;cases tg <;> first|(cases h;done)|skip
 case Name x px =>
  obtain⟨hl,h⟩:=ac.mp (show (if tE (T.sc.names.lookup x)=true then (T.slot x).bind fun i=>BF n T p i e else none)=some t from h);obtain⟨i,h1,h⟩:=ad.mp h;exact y0 C hl h1 h
 case Subscript a k sp =>
  cases a <;> first|(cases h;done)|skip
  rename_i x q;obtain⟨hn,h⟩:=ac.mp (show (if jd k && !jB e then (T.slot x).bind fun i=>(jr n T k).bind fun tk=>(jr n T e).map (ym T p i tk) else none)=some t from h);obtain⟨n1,n2⟩:=ae.mp hn;obtain⟨i,h1,h⟩:=ad.mp h;obtain⟨tk,h2,h⟩:=ad.mp h;obtain⟨ta,h3,rfl⟩:=aa.mp h;have hc:jB e=false:=by simpa using n2
  unfold ym;split
  ·exact et.ok (A3 C.room) (C.var h1) (ih h2) (eF.ok (ih h3)) (jg hc _ _ _)
  refine gT.ok (C.var h1) (ih h2) (ih h3) (j5 hc _ _ _) ?_ rfl (ky (C.var h1) (ih h2) jz ?_)
  ·cases e <;> rfl
  ·intro v;cases k <;> first|rfl|cases n1
 case Tuple es k pt=>exact vG C h
theorem zo{n:Nat}(C:CtxS T X Jx){e:Expr}{t:TSd}{p:Pos}(h:Cv n T p e=some t):PS X (.Expr e p) (LS X.K Jx t):=by
 have ih:mt X Jx (jr n T):=(kJ n).e C.toCtxOk;unfold Cv at h;split at h
 ·rename_i x m ap as cp em;obtain⟨⟨p1,rfl⟩,hl⟩:=mT em;by_cases e1:m = "append"
  ·subst e1;rw [if_pos rfl] at h;match as,h with
   | [e],h =>
    obtain⟨hn,h⟩:=ac.mp h;obtain⟨i,h1,h⟩:=ad.mp h;obtain⟨ta,h2,rfl⟩:=aa.mp h;exact gH.ok (C.var h1) rfl (ih h2) (iX hn _ _) hl rfl
   | [],h=>cases h
   | _::_::_,h=>cases h
  ·rw [if_neg e1] at h;by_cases e2:m = "pop"
   ·subst e2;rw [if_pos rfl] at h;obtain⟨ha,h4⟩:=ac.mp h;obtain⟨i,h1,rfl⟩:=aa.mp h4;cases as with
    | cons=>cases ha
    | nil=>exact iE.ok (C.var h1) rfl hl rfl
   ·rw [if_neg e2] at h;by_cases e5:m = "extend"
    ·subst e5;rw [if_pos rfl] at h;match as,h with
     | [e],h =>
      obtain⟨hn,h⟩:=ac.mp h;obtain⟨i,h1,h⟩:=ad.mp h;obtain⟨ta,h2,rfl⟩:=aa.mp h;exact fY.ok (C.var h1) rfl (ih h2) (iX hn _ _) hl rfl
     | [],h=>cases h
     | _::_::_,h=>cases h
    rw [if_neg e5] at h;obtain⟨rfl,h3⟩:=ac.mp h;obtain⟨ha,h4⟩:=ac.mp h3;obtain⟨i,h1,rfl⟩:=aa.mp h4;cases as with
    | cons=>cases ha
    | nil =>
     unfold Bi;split
     ·exact gy.ok (C.var h1) rfl hl rfl
     ·exact iF.ok (C.var h1) rfl hl rfl
 ·obtain⟨hc,h⟩:=bq.mp h;obtain⟨ta,h1,rfl⟩:=aa.mp h;unfold C4;split
  ·exact dDo.ok (eF.ok (ih h1)) (jg (by simpa using hc) _ _ _)
  ·exact dDo.ok (ih h1) (jg (by simpa using hc) _ _ _)
theorem CtxOk.wish(C:CtxOk T X Jx)(E:Value->Shared->Prop):CtxOk { T with xt:=T.xt.inn } (X.wish E) Jx :=
 ⟨C.N,C.nd,C.calm,C.room,C.vis,C.gl,C.loc,C.cf,C.fn,C.gc,C.bl,C.cel,C.gn,⟨C.xt.xi,C.xt.xf,C.xt.x0,C.xt.xc,fun _ _ _ _ h=>absurd h au,C.xt.tab,C.xt.xs,C.xt.xm,C.xt.gd⟩,fun h=>absurd rfl h⟩
theorem vH{n:Nat}(C:CtxS T X Jx){b:List Stmt}{hs:List ExceptHandler}{t:TSd}{p:Pos}(h:ya n T b hs=some t):PS X (.Try b hs [] [] p) (LS X.K Jx t):=by
 unfold ya at h;split at h
 ·rename_i g p1 a as p2 p3 cl p4 nm y p5 z p6 p7 p8;obtain⟨hk,h9⟩:=ac.mp h;clear h;obtain⟨hk,k4⟩:=ae.mp hk;obtain⟨hk,k3⟩:=ae.mp hk;obtain⟨k1,k2⟩:=ae.mp hk;have ez:z=nm:=of_decide_eq_true k1;subst ez;have h:=h9;clear h9;cases e1:T.xt.xm.lookup cl with
  | none=>rw [e1] at h;cases h
  | some js =>
   obtain⟨Nc,m⟩:=js;rw [e1] at h;obtain⟨gi,h1,h⟩:=ad.mp h;obtain⟨j,h2,h⟩:=ad.mp h;obtain⟨i,h3,h⟩:=ad.mp h;obtain⟨hi,h⟩:=ac.mp h;obtain⟨hi,hall⟩:=ae.mp hi;obtain⟨ta,h4,rfl⟩:=aa.mp h;obtain⟨g1,g2⟩:=C.toCtxOk.isG k2;obtain⟨m1,m2⟩:=C.xt.xm _ _ _ (i9 e1);have okN':∀{x:Str} {i:Nat},T.slot x=some i->yX x=true/\zR (T.sc.names.lookup x)=true:=fun {x i} q=>by
    unfold Tc.slot at q;split at q
    ·rename_i e;obtain⟨e1,e2⟩:=ae.mp e;exact⟨e2,e1⟩
    ·cases q
   have hla:∀ fa j s,(fa,j,s)∈T.xt.tab->j<=T.k/\∃ x ps,DefX X.prog X.w X.K X.mg X.base x fa j ps (tx X.K s):=fun fa j s q=>⟨of_decide_eq_true (aP.mp hall _ q),C.xt.tab fa j s q⟩;refine iH.ok (Nc:=Nc) (yH C.nd (C.toCtxOk.slot h1) (C.vis _ (okN' h1).2) (qX (okN' h1).1) (uA (okN' h1).1) (C.toCtxOk.slot h2) (C.loc _ (eq_of_beq k3)) (qX (okN' h2).1) (uA (okN' h2).1) (C.toCtxOk.slot h3) (C.loc _ (eq_of_beq k4)) g1 m1 g2 (fun E'=>jn ((kJ n).e (C.toCtxOk.wish E')) h4) (jm h4) (jv h4) C.stk (by simpa using hi)) m2 hla C.room fun fa v q=>CY q
 ·cases h
theorem lN:∀ n,(∀{T:Tc} {X:Cx} {Jx:Hp->Prop} {st:Stmt} {t:TSd},CtxS T X Jx->Aa n T st=some t->PS X st (LS X.K Jx t))/\(∀{T:Tc} {X:Cx} {Jx:Hp->Prop} {sts:List Stmt} {t:TSd},CtxS T X Jx->mw n T sts=some t->PSs X sts (LS X.K Jx t))
 | 0=>⟨fun _ h=>(by cases h),fun _ h=>(by cases h)⟩
 | n+1=>by
  have ihS:=lN n;constructor
  ·intro T X Jx st t C h;have C':=C.toCtxOk;have ih:mt X Jx (jr n T):=(kJ n).e C';have it:BK X Jx (oD n T):=(kJ n).t C';have hp:T.xt.lp=true->PassesOwn (model X.prog X.w) X.A X.env X.xe:=fun z=>by
    rw [C.xe z];exact PassesOwn.never
   cases st <;> first|(cases h;done)|skip
   case Return o p =>
    cases o with
    | none =>
     cases h;exact gR.ok
    | some e =>
     obtain⟨ta,h1,rfl⟩:=aa.mp (show (jr n T e).map (dq (T.frz p))=some t from h);exact dq.ok (ih h1)
   case Pass=>cases h;exact dj.pass
   case Break=>cases h;exact iD.ok
   case Expr=>exact zo C h
   case Assign tgs e p =>
    match tgs,h with
    | [tg],h=>exact xn C h
    | [],h=>cases h
    | _::_::_,h=>cases h
   case AugAssign tg op e p =>
    cases tg <;> first|(cases h;done)|skip
    case Name x px =>
     obtain⟨hl,h⟩:=ac.mp (show (if tE (T.sc.names.lookup x)=true then (T.slot x).bind fun i=>(jr n T e).map (zF T p i op) else none)=some t from h);obtain⟨i,h1,h⟩:=ad.mp h;obtain⟨ta,h2,rfl⟩:=aa.mp h;unfold zF;split
     ·rename_i hk;obtain⟨_,k2⟩:=ae.mp hk;cases uQ k2;exact fY.okA C.nd (C'.slot h1) (C.L hl) (ih h2) (.inl (C.fnT _))
     ·exact ik.ok C.room C.nd (C'.slot h1) (C.L hl) (ih h2) (.inl (C.fnT _))
    case Subscript a k sp =>
     cases a <;> first|(cases h;done)|skip
     rename_i x q;obtain⟨hn,h⟩:=ac.mp (show (if jd k then (T.slot x).bind fun i=>(jr n T k).bind fun tk=>(jr n T e).map (gw (T.frz p) i tk op) else none)=some t from h);obtain⟨i,h1,h⟩:=ad.mp h;obtain⟨tk,h2,h⟩:=ad.mp h;obtain⟨ta,h3,rfl⟩:=aa.mp h;refine gw.ok C.room (C.var h1) (ih h2) (ih h3) ?_;cases k <;> first|(intros;rfl)|cases hn
   case If k a b p =>
    obtain⟨tk,h0,h⟩:=ad.mp (show (oD n T k).bind (fun tk=>(mw n T a).bind fun ta=>(mw n T b).map fun tb=>Cq T p tk ta tb)=some t from h);obtain⟨ta,h1,h⟩:=ad.mp h;obtain⟨tb,h2,rfl⟩:=aa.mp h;unfold Cq;split
    ·exact dIf.ok (it h0) (ihS.2 C h1) (ihS.2 C h2)
    ·exact fI.ok (it h0) (ihS.2 C h1) (ihS.2 C h2)
   case While k a r p =>
    cases r with
    | cons=>cases h
    | nil =>
     obtain⟨hlp,h⟩:=ac.mp (show (if T.xt.lp then (oD n T k).bind (fun tk=>if (T.fz.lookup (p.line+2000000)).isSome then some (dY tk d7) else (mw n T a).map (BM T p tk)) else none)=some t from h);obtain⟨tk,h0,h⟩:=ad.mp h;split at h
     ·cases h;exact dY.ok (hp hlp) (it h0) d7.oks
     obtain⟨ta,h1,rfl⟩:=aa.mp h;unfold BM;split
     ·exact dY.ok (hp hlp) (g9.ok (it h0)) (ihS.2 C h1)
     ·exact dY.ok (hp hlp) (it h0) (ihS.2 C h1)
   case For tg i a r p =>
    cases r with
    | cons=>cases h
    | nil =>
     obtain⟨hn,h⟩:=ac.mp (show (if jd i && T.xt.lp then (zg (jr n T) T tg i).bind fun ti=>(Bz T tg).bind fun g=>(mw n T a).map (eE (T.frz p) ti g) else none)=some t from h);obtain⟨hn,hlp⟩:=ae.mp hn;obtain⟨ti,h0,h⟩:=ad.mp h;obtain⟨g,h1,h⟩:=ad.mp h;obtain⟨tb,h2,rfl⟩:=aa.mp h;exact eE.ok (hp hlp) C.calm (qk C' ih h0) (pN C' h1) (ihS.2 C h2) fun x=>k7 hn _ x
   case Raise ex cause p =>
    match ex,cause,h with
    | some (.Call (.Name nm p1) [a] [] p2),none,h =>
     have h:(if T.xt.lp then some d7 else if T.isG nm && jd a then (match T.xt.xc.lookup nm with
      | some (i,C,y)=>if i+1<=T.k then (jZ (jr n T) [a]).map (fu T.xt.E C y) else none
      | none=>none) else none)=some t:=h
     split at h
     ·cases h;exact d7.ok
     rename_i k1;obtain⟨hk,h⟩:=ac.mp h;obtain⟨k2,n1⟩:=ae.mp hk;cases e1:T.xt.xc.lookup nm with
     | none=>rw [e1] at h;cases h
     | some js =>
      obtain⟨i,Cc,y⟩:=js;rw [e1] at h;obtain⟨hi,h⟩:=ac.mp h;obtain⟨ta,h1,rfl⟩:=aa.mp h;obtain⟨EX,hR,hJ⟩:=C.ro (by simpa using k1);obtain⟨g1,g2⟩:=C'.isG k2;exact fu.ok hJ hR C.calm (C.xt.xc _ _ _ _ (i9 e1)) C.room hi g1 g2 (jn ih h1) (iX n1 _ _)
   case Try b hs els fin p =>
    match els,fin,h with
    | [],[],h=>exact vH C h
  ·intro T X Jx sts t C h;match sts,h with
   | [],h =>
    cases h;exact dj.nil
   | [st],h=>exact dSq.one (ihS.1 C h)
   | st::s2::r,h =>
    obtain⟨ta,h1,h⟩:=ad.mp (show (Aa n T st).bind (fun t=>(mw n T (s2::r)).map (dSq t))=some t from h);obtain⟨tb,h2,rfl⟩:=aa.mp h;exact dSq.ok (ihS.1 C h1) (ihS.2 C h2)
theorem vc{P:Program}{w:World}{mg:Str->Option Value}{base:Heap}{qual:Str}{st:Stmt}{f:Addr}{N ps:List Str}{k:Nat}{G gn:List (Str×Nat×SpB)}{gc:List (Str×D)}{fz:List (Nat×List Nat)}{own mu:List Nat}{xt:Xt}{cdv:Value}{A:Around}{outer:List Env}{s0:Shared}{H:Hp}{E:XK}{CX:qH}{Ew:Value->Shared->Prop}(B:Bl mg)(S:FnScope N ps (iR st))
  (hG:∀ x j s,(x,j,s)∈G->∃ ps,Def P w K mg base x j ps (ms K s.n s.run)) (hgc:∀ x d,(x,d)∈gc->∃ v u,mg x=some u/\RelV v u/\∀ f O H,Rp K f O H d v) (hgn:∀ x j s,(x,j,s)∈gn->∃ ps,Def P w K mg base x j ps (tz K s.n s.run)) (hx:XtOk P w K mg base xt) (hr:Room k (A.deeper (PyProof.Rows.envOfC qual (iR st) s0.heap.objs.size f cdv)))
  (px:xt.gx≠[]->∃ EX,kE (zW P w) ((n5 CX P w K mg base N qual (iR st) f cdv A outer s0 H E).wish Ew) EX/\∀ H',Jx H'->tD xt.E EX H') (xe:xt.lp=true->Ew=fun _ _=>False) (ro:xt.lp=false->∃ EX,mo ((n5 CX P w K mg base N qual (iR st) f cdv A outer s0 H E).wish Ew) EX/\∀ H',Jx H'->tD xt.E EX H') :
  CtxS ⟨N,iR st,G,gc,k,fz,own,mu,gn,xt⟩ ((n5 CX P w K mg base N qual (iR st) f cdv A outer s0 H E).wish Ew) Jx:=by
 refine⟨⟨rfl,S.nd,rfl,hr,fun x h=>?_,fun x h=>h,fun x h=>h,fun x h=>h,hG,hgc,B,fun x h=>⟨h,rfl⟩,hgn,hx,px⟩,rfl,?_,xe,fun _=>rfl,ro,rfl,rfl⟩
 ·have h:zR ((iR st).names.lookup x)=true:=h;unfold xp;show (iR st).names.lookup x=_\/(iR st).names.lookup x=_\/(iR st).names.lookup x=_;cases q:(iR st).names.lookup x with
  | none=>rw [q] at h;cases h
  | some k=>rw [q] at h;cases k <;> first|exact .inl rfl|exact .inr (.inl rfl)|exact .inr (.inr rfl)|cases h
 ·show (if (iR st).kind.isAnnotationScope then ScopeKind.function else (iR st).kind) = .function;rw [S.kind];rfl
theorem uz{P:Program}{w:World}{mg:Str->Option Value}{base:Heap}{x qual:Str}{st:Stmt}{f:Addr}{fd:FuncData}{N ps:List Str}{n k:Nat}{t:TSd}{s:SpB}{G gn:List (Str×Nat×SpB)}{gc:List (Str×D)}{fz:List (Nat×List Nat)}{own mu:List Nat}{xt:Xt}(F:Fun K x qual st f fd)(B:Bl mg)(S:FnScope N ps (iR st))(hn:s.n=ps.length)
  (hG:∀ x j s,(x,j,s)∈G->∃ ps,Def P w K mg base x j ps (ms K s.n s.run)) (hgc:∀ x d,(x,d)∈gc->∃ v u,mg x=some u/\RelV v u/\∀ f O H,Rp K f O H d v) (hgn:∀ x j s,(x,j,s)∈gn->∃ ps,Def P w K mg base x j ps (tz K s.n s.run)) (hx:XtOk P w K mg base xt)
  (ht:mw n ⟨N,iR st,G,gc,k,fz,own,mu,gn,xt⟩ (jc st)=some t) (h:Does N.length t s) (hlp:xt.lp=true/\xt.gx=[]:=by exact⟨rfl,rfl⟩):FnOk P w K mg base om (k+1) f fd ps (ms K s.n s.run) :=
 F.ok S (fun vs H Q E q=>q.1.trans hn) (fun cdv A outer s0 H vs Q E hr q=>⟨LS K (fun _=>True) t,(lN n).2 (vc B S hG hgc hgn hx hr (fun z=>absurd hlp.2 z) (fun _=>rfl) fun z=>by rw [hlp.1] at z;cases z) ht,h.ok q⟩)
end
section
open PySem L2 Dp
variable{P:Program}{w:World}{K:Frag}{Jx:Hp->Prop}{mg:Str->Option Value}{base:Heap}
theorem wu{st:Stmt}{f0:Addr}{fd:FuncData}{N:List Str}{n k:Nat}{t:TSd}{rest:List Stmt}{p1 p2 p3 p4 p5:Pos}{G:List (Str×Nat×SpB)}{gc:List (Str×D)}{fz:List (Nat×List Nat)}{own mu:List Nat}{xt:Xt}(F:Fun K "law" "law" st f0 fd)(B:Bl mg)(S:FnScope ("_law_script" :: "_law_flow_here" :: N) ["_law_script"] (iR st))
  (g:Def P w K mg base "_law_flow" 1 ["_law_script"] (kX K)) (hG:∀ x j s,(x,j,s)∈G->∃ ps,Def P w K mg base x j ps (ms K s.n s.run)) (hgc:∀ x d,(x,d)∈gc->∃ v u,mg x=some u/\RelV v u/\∀ f O H,Rp K f O H d v) (hx:XtOk P w K mg base xt)
  (hb:jc st = .Assign [.Name "_law_flow_here" p1] (.Call (.Name "_law_flow" p2) [.Name "_law_script" p3] [] p4) p5::rest) (hk:1<=k) (hv:(iR st).names.lookup ("_law_script" : Str)=some .local\/(iR st).names.lookup ("_law_script" : Str)=some .cell) (hl:(iR st).names.lookup ("_law_flow_here" : Str)=some .local\/(iR st).names.lookup ("_law_flow_here" : Str)=some .cell) (hg:(iR st).names.lookup ("_law_flow" : Str)=some .globalImplicit)
  (ht:mw n ⟨"_law_script" :: "_law_flow_here" :: N,iR st,G,gc,k,fz,own,mu,[],xt⟩ rest=some t) (h:t.run ⟨fun _=>False,fun d=>d = .bl true,fun _=>False,fun _=>False⟩ (.no :: .val .fl::List.replicate N.length .no)) (hlp:xt.lp=true/\xt.gx=[]:=by exact⟨rfl,rfl⟩) :
  FnOk P w K mg base om (k+1) f0 fd ["_law_script"] (oE K):=by
 refine F.ok S (fun vs H Q E h=>?_) (fun cdv A outer s H vs Q E hr q=>?_)
 ·obtain⟨a,ns,rfl,_⟩:=h;rfl
 obtain⟨a,ns,rfl,hS,h63,q⟩:=q;refine⟨Ag (yk (kK (kX K) [] E0 (mG (jO 0) vK)) (m9 1)) (LS K (fun _=>True) t),?_,?_⟩
 ·rw [hb];refine jq (jJ S.nd rfl hl (lX g hr (iS (lW rfl ?_ rfl rfl) pa_nil rfl) hk hg rfl rfl rfl) rfl (.inl rfl)) ?_
  ·rcases hv with z|z
   ·exact .inl z
   ·exact .inr (.inl z)
  refine (lN n).2 (T:=⟨"_law_script" :: "_law_flow_here" :: N,iR st,G,gc,k,fz,own,mu,[],xt⟩) ⟨⟨rfl,S.nd,rfl,hr,fun x h=>?_,fun x h=>h,fun x h=>h,fun x h=>h,hG,hgc,B,fun x h=>⟨h,rfl⟩,fun _ _ _ h=>absurd h au,hx,fun z=>absurd hlp.2 z⟩,rfl,?_,fun _=>rfl,fun _=>rfl,fun z=>(by rw [hlp.1] at z;cases z),rfl,rfl⟩ ht
  ·have h:zR ((iR st).names.lookup x)=true:=h;unfold xp;show (iR st).names.lookup x=_\/(iR st).names.lookup x=_\/(iR st).names.lookup x=_;cases q:(iR st).names.lookup x with
   | none=>rw [q] at h;cases h
   | some k=>rw [q] at h;cases k <;> first|exact .inl rfl|exact .inr (.inl rfl)|exact .inr (.inr rfl)|cases h
  ·show (if (iR st).kind.isAnnotationScope then ScopeKind.function else (iR st).kind) = .function;rw [S.kind];rfl
 ·refine⟨_,rfl,a,ns,rfl,hS,h63,fun f H1 e1 fl hf=>?_⟩;have ef:(L2.start ("_law_script" :: "_law_flow_here" :: N) [V.ref a]).set 1 (some (V.ref f))=some (.ref a)::some (.ref f)::List.replicate N.length none:=rfl;show LS K (fun _=>True) t _ ((L2.start ("_law_script" :: "_law_flow_here" :: N) [V.ref a]).set 1 (some (V.ref f))) H1;rw [ef];have gt:∀{i:Nat} {x:SD},(SD.no::SD.val .fl::List.replicate N.length SD.no)[i]? = some x->x = .no\/(i=1/\x = .val .fl):=fun {i x} h=>by
   match i,h with
   | 0,h=>cases h;exact .inl rfl
   | 1,h=>cases h;exact .inr ⟨rfl,rfl⟩
   | i+2,h=>exact .inl (cC (aF (show (List.replicate N.length SD.no)[i]? = some x from h)))
  refine⟨⟨f,[f],H1,[f]⟩,[f],SD.no::SD.val .fl::List.replicate N.length SD.no,⟨⟨fl,ao.mpr rfl,fun b hb=>?_,fun l r e z=>?_,by simp,fun i d hd=>?_,fun i l hd=>?_,fun _ _=>trivial⟩,fun _ h=>h,⟨fun _ _ h _ _=>h,fun l r h=>⟨r,h⟩⟩,fun b h=>.inl h,fun i l b hd=>?_,fun _ _ _=>trivial⟩,?_⟩
  ·rw [ao.mp hb];exact .inl fl.lst
  ·have z:=ao.mp z;subst z;obtain⟨l0,ns0,i,c,a0,b,h1,h2,_⟩:=fl;rw [h1] at e;cases e;rw [h1] at h2;cases ns0 <;> cases h2
  ·rcases gt hd with e|⟨rfl,e⟩
   ·cases e
   ·cases e;exact⟨_,rfl,rfl⟩
  ·rcases gt hd with e|⟨_,e⟩ <;> cases e
  ·rcases gt hd with e|⟨_,e⟩ <;> cases e
  ·refine t.mono ?_ h;refine⟨fun s z=>z.elim,fun d z v H' R=>?_,fun s z=>z.elim,fun s z=>z.elim⟩;subst z;cases (show v=_ from R.rp);exact q H'
theorem yV{st:Stmt}{f0:Addr}{fd:FuncData}{N:List Str}{n k:Nat}{t:TSd}{rest:List Stmt}{p1 p2 p3 p4 p5:Pos}{G:List (Str×Nat×SpB)}{gc:List (Str×D)}{fz:List (Nat×List Nat)}{own mu:List Nat}(F:Fun K "law" "law" st f0 fd)(B:Bl mg)(S:FnScope ("_law_script" :: "_law_flow_here" :: N) ["_law_script"] (iR st))
  (g:Def P w K mg base "_law_flow" 1 ["_law_script"] (kX K)) (hG:∀ x j s,(x,j,s)∈G->∃ ps,Def P w K mg base x j ps (ms K s.n s.run)) (hgc:∀ x d,(x,d)∈gc->∃ v u,mg x=some u/\RelV v u/\∀ f O H,Rp K f O H d v)
  (hb:jc st = .Assign [.Name "_law_flow_here" p1] (.Call (.Name "_law_flow" p2) [.Name "_law_script" p3] [] p4) p5::rest) (hk:1<=k) (hv:(iR st).names.lookup ("_law_script" : Str)=some .local\/(iR st).names.lookup ("_law_script" : Str)=some .cell) (hl:(iR st).names.lookup ("_law_flow_here" : Str)=some .local\/(iR st).names.lookup ("_law_flow_here" : Str)=some .cell) (hg:(iR st).names.lookup ("_law_flow" : Str)=some .globalImplicit)
  (ht:mw n ⟨"_law_script" :: "_law_flow_here" :: N,iR st,G,gc,k,fz,own,mu,[],{}⟩ rest=some t) (h:t.run ⟨fun _=>False,fun d=>d = .bl true,fun _=>False,fun _=>False⟩ (.no :: .val .fl::List.replicate N.length .no)) :
  FnOk P w K mg base om (k+1) f0 fd ["_law_script"] (oE K):=wu F B S g hG hgc XtOk.no hb hk hv hl hg ht h
end
section
open PySem L2 Dp
variable{P:Program}{w:World}{K:Frag}{Jx:Hp->Prop}{mg:Str->Option Value}{base:Heap}
theorem Dy:∀(x:Str) (j:Nat) (s:SpB),(x,j,s)∈([]:List (Str×Nat×SpB))->∃ ps,Def P w K mg base x j ps (ms K s.n s.run):=fun _ _ _ h=>absurd h au
theorem A4{y:Str}{i:Nat}{r:SpB}{ps:List Str}{G:List (Str×Nat×SpB)}(g:Def P w K mg base y i ps (ms K r.n r.run))(h:∀(x:Str) (j:Nat) (s:SpB),(x,j,s)∈G->∃ ps,Def P w K mg base x j ps (ms K s.n s.run)):∀(x:Str) (j:Nat) (s:SpB),(x,j,s)∈(y,i,r)::G->∃ ps,Def P w K mg base x j ps (ms K s.n s.run):=fun x j s e=>by
 rcases ah.mp e with e|e
 ·cases e;exact⟨ps,g⟩
 ·exact h x j s e
theorem DA:∀(x:Str) (d:D),(x,d)∈([]:List (Str×D))->∃ v u,mg x=some u/\RelV v u/\∀ f O H,Rp K f O H d v:=fun _ _ h=>absurd h au
theorem Dz{y:Str}{c:D}{gc:List (Str×D)}(g:∃ v u,mg y=some u/\RelV v u/\∀ f O H,Rp K f O H c v)(h:∀(x:Str) (d:D),(x,d)∈gc->∃ v u,mg x=some u/\RelV v u/\∀ f O H,Rp K f O H d v):∀(x:Str) (d:D),(x,d)∈(y,c)::gc->∃ v u,mg x=some u/\RelV v u/\∀ f O H,Rp K f O H d v:=fun x d e=>by
 rcases ah.mp e with e|e
 ·cases e;exact g
 ·exact h x d e
end
section
open PySem L2 Dp
variable{P:Program}{w:World}{K:Frag}{Jx:Hp->Prop}{mg:Str->Option Value}{base:Heap}
structure Sl (K:Frag)(f:Addr)(x:Str)(st:Stmt):Prop where
 a:PySem.W.nsIn K mainGlobals x=some (some (.ref f))
 ex:∃ fd,Fun K x x st f fd
theorem sl{f:Addr}{x:Str}{st:Stmt}{oc:Value}{od an:Option Addr}{osl:Array (Option Value)}{kV doc pm cdv ct:Value}(a:PySem.W.nsIn K mainGlobals x=some (some (.ref f)))(l:K.lookup f=some ⟨oc,od,.func (PySem.W.fnOf x x (jI st) (jc st) (iR st) .none kV doc pm an cdv ct),osl⟩)(c:PySem.W.codeIn K cdv x=true)(k:PySem.W.keepIn K (.ref f)=true):Sl K f x st:=⟨a,_,zl l c k⟩
abbrev Mg(K:Frag)(mg:Str->Option Value):Prop:=∀(x:Str) (f:Addr),PySem.W.nsIn K mainGlobals x=some (some (.ref f))->mg x=some (.ref f)
def B3(N ps:List Str)(sc:Scope):Bool:=decide (N.Nodup) && decide (N.take ps.length=ps) && (ps.all fun x=>decide (sc.names.lookup x=some .local) || decide (sc.names.lookup x=some .cell)) && sc.names.all fun y=>decide (y.2 ≠ .free)
theorem sc{N ps:List Str}{sc:Scope}(h:B3 N ps sc=true)(h1:sc.kind = .function)(h2:sc.isCoroutine=false)(h3:sc.isGenerator=false):FnScope N ps sc:=by
 unfold B3 at h;obtain⟨h,d⟩:=ae.mp h;obtain⟨h,c⟩:=ae.mp h;obtain⟨a,b⟩:=ae.mp h;refine⟨h1,h2,h3,of_decide_eq_true a,of_decide_eq_true b,fun x hx=>?_,fun y hy=>of_decide_eq_true (aP.mp d y hy)⟩;rcases cO.mp (aP.mp c x hx) with z|z
 ·exact .inl (of_decide_eq_true z)
 ·exact .inr (of_decide_eq_true z)
abbrev o0:List (Nat×List Nat)×List Nat×List Nat:=([],[],[])
abbrev BA(x:Str)(st:Stmt)(kV doc pm:Value)(an:Option Addr)(cdv ct:Value)(us:List Value):=bindArgs (PySem.W.fnOf x x (jI st) (jc st) (iR st) .none kV doc pm an cdv ct) ⟨us,[]⟩
theorem Ct:∀(x:Str) (j:Nat) (s:SpB),(x,j,s)∈([]:List (Str×Nat×SpB))->∃ ps,Def P w K mg base x j ps (tz K s.n s.run):=fun _ _ _ h=>absurd h au
theorem Du{x:Str}{st:Stmt}{f:Addr}{N ps:List Str}(k:Nat)(H:List (Nat×List Nat)×List Nat×List Nat){t:TSd}{s:SpB}{G:List (Str×Nat×SpB)}{gc:List (Str×D)}(S:Sl K f x st)(W:Mg K mg)(B:Bl mg)(C:FnScope N ps (iR st))(hn:s.n=ps.length)
  (hG:∀ x j s,(x,j,s)∈G->∃ ps,Def P w K mg base x j ps (ms K s.n s.run)) (hgc:∀ x d,(x,d)∈gc->∃ v u,mg x=some u/\RelV v u/\∀ f O H,Rp K f O H d v)
  (hb:∀(kV doc pm:Value) (an:Option Addr) (cdv ct:Value) (us:List Value),us.length=ps.length->BA x st kV doc pm an cdv ct us=pure (ps.zip us))
  (ht:mw 40 ⟨N,iR st,G,gc,k,H.1,H.2.1,H.2.2,[],{}⟩ (jc st)=some t) (h:Does N.length t s):Def P w K mg base x (k+1) ps (ms K s.n s.run):=by
 obtain⟨a,fd,F⟩:=S;exact .of F (W _ _ a) (F.binds hb) (uz (n:=40) (fz:=H.1) (own:=H.2.1) (mu:=H.2.2) F B C hn hG hgc Ct XtOk.no ht h)
theorem Cg{x:Str}{st:Stmt}{f:Addr}{N ps:List Str}(k:Nat)(H:List (Nat×List Nat)×List Nat×List Nat){t:TSd}{s:SpB}{G:List (Str×Nat×SpB)}{gc:List (Str×D)}{xt:Xt}(S:Sl K f x st)(W:Mg K mg)(B:Bl mg)(C:FnScope N ps (iR st))(hn:s.n=ps.length)
  (hG:∀ x j s,(x,j,s)∈G->∃ ps,Def P w K mg base x j ps (ms K s.n s.run)) (hgc:∀ x d,(x,d)∈gc->∃ v u,mg x=some u/\RelV v u/\∀ f O H,Rp K f O H d v) (hx:XtOk P w K mg base xt)
  (hb:∀(kV doc pm:Value) (an:Option Addr) (cdv ct:Value) (us:List Value),us.length=ps.length->BA x st kV doc pm an cdv ct us=pure (ps.zip us))
  (ht:mw 40 ⟨N,iR st,G,gc,k,H.1,H.2.1,H.2.2,[],xt⟩ (jc st)=some t) (h:Does N.length t s) (hlp:xt.lp=true/\xt.gx=[]:=by exact⟨rfl,rfl⟩):Def P w K mg base x (k+1) ps (ms K s.n s.run):=by
 obtain⟨a,fd,F⟩:=S;exact .of F (W _ _ a) (F.binds hb) (uz (n:=40) (fz:=H.1) (own:=H.2.1) (mu:=H.2.2) F B C hn hG hgc Ct hx ht h hlp)
theorem u0{us:List Value}{n:Nat}(h:us.length=n+1):∃ a r,us=a::r/\r.length=n:=by
 cases us with
 | nil=>exact absurd h (Nat.succ_ne_zero n).symm
 | cons a r=>exact⟨a,r,rfl,Nat.succ.inj h⟩
theorem u1{us:List Value}(h:us.length=1):∃ a,us=[a]:=by
 obtain⟨a,r,rfl,h1⟩:=u0 (n:=0) h;exact⟨a,by rw [bo.mp h1]⟩
theorem u2{us:List Value}(h:us.length=2):∃ a b,us=[a,b]:=by
 obtain⟨a,r,rfl,h1⟩:=u0 (n:=1) h;obtain⟨b,rfl⟩:=u1 h1;exact⟨a,b,rfl⟩
theorem u3{us:List Value}(h:us.length=3):∃ a b c,us=[a,b,c]:=by
 obtain⟨a,r,rfl,h1⟩:=u0 (n:=2) h;obtain⟨b,c,rfl⟩:=u2 h1;exact⟨a,b,c,rfl⟩
theorem b1{x:Str}{st:Stmt}{p:Str}(h:∀(kV doc pm:Value) (an:Option Addr) (cdv ct u:Value),BA x st kV doc pm an cdv ct [u]=pure [(p,u)]):∀(kV doc pm:Value) (an:Option Addr) (cdv ct:Value) (us:List Value),us.length=[p].length->BA x st kV doc pm an cdv ct us=pure ([p].zip us):=fun _ _ _ _ _ _ us hl=>by
 obtain⟨_,rfl⟩:=u1 hl;exact h ..
theorem b2{x:Str}{st:Stmt}{p q:Str}(h:∀(kV doc pm:Value) (an:Option Addr) (cdv ct u v:Value),BA x st kV doc pm an cdv ct [u,v]=pure [(p,u),(q,v)]):∀(kV doc pm:Value) (an:Option Addr) (cdv ct:Value) (us:List Value),us.length=[p,q].length->BA x st kV doc pm an cdv ct us=pure ([p,q].zip us):=fun _ _ _ _ _ _ us hl=>by
 obtain⟨_,_,rfl⟩:=u2 hl;exact h ..
theorem b3{x:Str}{st:Stmt}{p q r:Str}(h:∀(kV doc pm:Value) (an:Option Addr) (cdv ct u v z:Value),BA x st kV doc pm an cdv ct [u,v,z]=pure [(p,u),(q,v),(r,z)]):∀(kV doc pm:Value) (an:Option Addr) (cdv ct:Value) (us:List Value),us.length=[p,q,r].length->BA x st kV doc pm an cdv ct us=pure ([p,q,r].zip us):=fun _ _ _ _ _ _ us hl=>by
 obtain⟨_,_,_,rfl⟩:=u3 hl;exact h ..
theorem b4{x:Str}{st:Stmt}{p q r s:Str}(h:∀(kV doc pm:Value) (an:Option Addr) (cdv ct u v z y:Value),BA x st kV doc pm an cdv ct [u,v,z,y]=pure [(p,u),(q,v),(r,z),(s,y)]):∀(kV doc pm:Value) (an:Option Addr) (cdv ct:Value) (us:List Value),us.length=[p,q,r,s].length->BA x st kV doc pm an cdv ct us=pure ([p,q,r,s].zip us):=fun _ _ _ _ _ _ us hl=>by
 obtain⟨a,l,rfl,h1⟩:=u0 (n:=3) hl;obtain⟨_,_,_,rfl⟩:=u3 h1;exact h ..
end
section
open PySem L2 Dp
variable{K:Frag}{Jx:Hp->Prop}{f:Addr}{O O':List Addr}{H H':Hp}{X:Cx}{σ:L2.St}{ss:SS}{pos:Pos}
theorem sZ{t u:TSd}{D:Ends}(h:LS K Jx (dSq t u) D σ H):LS K Jx t { D with nx:=LS K Jx u D } σ H:=by
 obtain⟨c,O,ss,R,q⟩:=h;exact⟨c,O,ss,R,t.mono (E:=(jD K Jx c D).to (u.run (jD K Jx c D))) ⟨fun s q O' σ' H' R'=>⟨c,O',s,R',q⟩,fun _ q=>q,fun _ q=>q,fun _ q=>q⟩ q⟩
theorem AK{T:Tc}{i:Nat}{y:Str}{py pr:Pos}(C:CtxS T X Jx)(hy:T.slot y=some i):∀(n:Nat) (b:List Stmt) (t:TSd),mw n T b=some t->PSs X (b++[.Return (some (.Name y py)) pr]) (fun D σ H=>LS X.K Jx t { D with nx:=fun σ H=>jO i σ H D.rt } σ H)
 | 0,_,_,h=>by cases h
 | n+1,[],t,h=>by
  cases h;exact (jh (jK (C.var hy))).weak fun D σ H ⟨c,O,ss,R,q⟩=>q O σ H R
 | n+1,[st],t,h=>jq ((lN n).1 C h) (jh (jK (C.var hy)))
 | n+1,st::s2::r,t,h=>by
  obtain⟨t1,h1,h⟩:=ad.mp (show ((Aa n T st).bind fun t=>(mw n T (s2::r)).map (dSq t))=some t from h);obtain⟨t2,h2,rfl⟩:=aa.mp h;exact (jq ((lN n).1 C h1) (AK C hy n (s2::r) t2 h2)).weak fun D σ H q=>sZ q
def nw:List Stmt->Option (List Stmt×Str×Pos×Pos)
 | []=>none
 | [.Return (some (.Name y py)) pr]=>some ([],y,py,pr)
 | s::r=>(nw r).map fun x=>(s::x.1,x.2)
theorem rV:∀{l b:List Stmt} {y:Str} {py pr:Pos},nw l=some (b,y,py,pr)->l=b++[.Return (some (.Name y py)) pr]:=by
 intro l;induction l with
 | nil=>intro b y py pr h;cases h
 | cons s r ih =>
  intro b y py pr h;unfold nw at h;split at h
  ·rename_i e;cases e
  ·rename_i e;cases e;cases h;rfl
  ·rename_i s' r' hne e;cases e;obtain⟨⟨b',y',p1,p2⟩,h1,h2⟩:=aa.mp h;cases h2;rw [ih h1];rfl
def CQ(n:Nat)(T:Tc)(l:List Stmt):Option (TSd×Nat):=(nw l).bind fun x=>(T.slot x.2.1).bind fun i=>(mw n T x.1).map fun t=>(t,i)
theorem ww{P:Program}{w:World}{mg:Str->Option Value}{base:Heap}{x qual:Str}{st:Stmt}{f:Addr}{fd:FuncData}{N ps:List Str}{n k i:Nat}{t:TSd}{s:SpB}{G gn:List (Str×Nat×SpB)}{gc:List (Str×D)}{fz:List (Nat×List Nat)}{own mu:List Nat}(F:Fun K x qual st f fd)(B:Bl mg)(S:FnScope N ps (iR st))(hn:s.n=ps.length)
  (hG:∀ x j s,(x,j,s)∈G->∃ ps,Def P w K mg base x j ps (ms K s.n s.run)) (hgc:∀ x d,(x,d)∈gc->∃ v u,mg x=some u/\RelV v u/\∀ f O H,Rp K f O H d v) (hgn:∀ x j s,(x,j,s)∈gn->∃ ps,Def P w K mg base x j ps (tz K s.n s.run))
  (ht:CQ n ⟨N,iR st,G,gc,k,fz,own,mu,gn,{}⟩ (jc st)=some (t,i)) (h:vy N.length t i s):FnOk P w K mg base om (k+1) f fd ps (xq K s.n s.run):=by
 obtain⟨⟨b,y,py,pr⟩,e1,ht⟩:=ad.mp ht;obtain⟨j,e2,ht⟩:=ad.mp ht;obtain⟨t',e3,e4⟩:=aa.mp ht;cases e4;refine F.ok S (fun vs H Q E q=>q.1.trans hn) (fun cdv A outer s0 H vs Q E hr q=>⟨_,(rV e1) ▸ AK (Jx:=fun _=>True) (vc B S hG hgc hgn XtOk.no hr (fun z=>absurd rfl z) (fun _=>rfl) fun z=>by cases z) e2 n b t e3,?_⟩);obtain⟨hn,f,O,ds,fl,fO,al,lO,r,q⟩:=q;refine⟨⟨f,O,H,O⟩,O,_,startD.ok fl fO al lO r fun _ _=>trivial,?_⟩;have q:=h ds _ (r.len.symm.trans hn) q;refine t.mono ?_ q;refine⟨fun s q O' σ' H' R=>?_,fun d q=>q.elim,fun _ q=>q.elim,fun _ q=>q.elim⟩;obtain⟨l,hs,kvs,el,q⟩:=q;obtain⟨a,us,h1,h2,h3,h4,h5,h6⟩:=R.sl.ownC hs;obtain⟨w1,w2,w3⟩:=R.own i _ a hs h1;have hH:H a=none:=by
  rcases w1 with w|w
  ·exact w
  ·exact absurd w w2
 have le:∀ b∈a::O,b∈O':=fun b hb=>by
  rcases ah.mp hb with z|z
  ·exact z ▸ h2
  ·exact R.sub b z
 refine⟨_,h1,q a H' ⟨⟨fun b o n h=>R.kp.kp b o h n (by by_cases z:b∈O;exact .inl z;exact .inr z),R.kp.key⟩,R.sl.fl⟩ hH ?_⟩;cases zu el;exact⟨us,h4,h5,h6.less le⟩
end
section
open PySem L2 Dp
variable{P:Program}{w:World}{K:Frag}{mg:Str->Option Value}{base:Heap}
def vA(s:Stmt):List Str:=(jI s).args.map (·.arg)
def zO(s:Stmt):List Str:=(iR s).names.filterMap fun y=>if y.2 = .local\/y.2 = .cell then some y.1 else none
def yW(N:List Str)(st:Stmt)(m n:Nat):Bool:=B3 N (vA st) (iR st) && (match (iR st).kind with | .function=>true|_=>false) && !(iR st).isCoroutine && !(iR st).isGenerator && decide (N.length=m) && decide (n=(vA st).length)
def SlS(tp:Nat->Stmt)(K:Frag):List (Str×Nat)->Prop
 | []=>True
 | y::r=>(∃ f,Sl K f y.1 (tp y.2))/\SlS tp K r
theorem SlS.c{tp:Nat->Stmt}{x:Str}{i:Nat}{r:List (Str×Nat)}{f:Addr}{oc:Value}{od an:Option Addr}{osl:Array (Option Value)}{kV doc pm cdv ct:Value}(a:PySem.W.nsIn K mainGlobals x=some (some (.ref f)))(l:K.lookup f=some ⟨oc,od,.func (PySem.W.fnOf x x (jI (tp i)) (jc (tp i)) (iR (tp i)) .none kV doc pm an cdv ct),osl⟩)(c:PySem.W.codeIn K cdv x=true)(k:PySem.W.keepIn K (.ref f)=true)(h:SlS tp K r):SlS tp K ((x,i)::r):=⟨⟨f,sl a l c k⟩,h⟩
theorem SlS.g{tp:Nat->Stmt}{x:Str}{i:Nat}:∀{L:List (Str×Nat)} (j:Nat) (_:SlS tp K L) (_:L[j]? = some (x,i)),∃ f,Sl K f x (tp i)
 | _::_,0,h,e=>by cases e;exact h.1
 | _::r,j+1,h,e=>SlS.g (L:=r) j h.2 (by simpa using e)
def ZsO(K:Frag):List Str->Prop
 | []=>True
 | x::r=>PySem.W.nsIn K mainGlobals x=some none/\ZsO K r
theorem ZsO.c{x:Str}{r:List Str}(a:PySem.W.nsIn K mainGlobals x=some none)(h:ZsO K r):ZsO K (x::r):=⟨a,h⟩
abbrev C8:List Str:=["len", "range", "all", "any", "abs", "int", "bool", "str", "list", "tuple", "dict", "isinstance", "enumerate", "reversed", "sorted", "max", "min", "sum", "zip"]
theorem Bm{h:Heap}(X:K.In h)(G:h.Ns mainGlobals mg)(z:ZsO K C8):Bl mg:=by
 have n:=@PySem.W.mg_none_of K h mg;obtain⟨z1,z2,z3,z4,z5,z6,z7,z8,z9,z10,z11,z12,z13,z14,z15,z16,z17,z18,z19,-⟩:=z;exact⟨n X G z1,n X G z2,n X G z3,n X G z4,n X G z5,n X G z6,n X G z7,n X G z8,n X G z9,n X G z10,n X G z11,n X G z12,n X G z13,n X G z14,n X G z15,n X G z16,n X G z17,n X G z18,n X G z19⟩
structure EvO (P:Program)(w:World)(K:Frag)(mg:Str->Option Value)(base:Heap)(tp:Nat->Stmt)(L:List (Str×Nat))(gc:List (Str×D)):Prop where
 S:SlS tp K L
 W:Mg K mg
 B:Bl mg
 c:∀ x d,(x,d)∈gc->∃ v u,mg x=some u/\RelV v u/\∀ f O H,Rp K f O H d v
abbrev xu(P:Program)(w:World)(K:Frag)(mg:Str->Option Value)(base:Heap)(G:List (Str×Nat×SpB)):Prop:=∀ x j s,(x,j,s)∈G->∃ ps,Def P w K mg base x j ps (ms K s.n s.run)
abbrev xw(st:Stmt):Prop:=∀(x:Str) (kV doc pm:Value) (an:Option Addr) (cdv ct:Value) (us:List Value),us.length=(vA st).length->BA x st kV doc pm an cdv ct us=pure ((vA st).zip us)
theorem mS{tp:Nat->Stmt}{L:List (Str×Nat)}{gc:List (Str×D)}(E:EvO P w K mg base tp L gc)(j k:Nat){x:Str}{i:Nat}(e:L[j]? = some (x,i))(H:List (Nat×List Nat)×List Nat×List Nat){m:Nat}{t:TSd}{s:SpB}{G:List (Str×Nat×SpB)}(hG:xu P w K mg base G)(h:Does m t s)(N:List Str)(hb:xw (tp i))(hc:yW N (tp i) m s.n=true:=by kernel_rfl)
  (ht:mw 40 ⟨N,iR (tp i),G,gc,k,H.1,H.2.1,H.2.2,[],{}⟩ (jc (tp i))=some t:=by kernel_rfl):xu P w K mg base ((x,k+1,s)::G):=by
 obtain⟨f,S⟩:=E.S.g j e;unfold yW at hc;simp only [aC,aY,decide_eq_true_eq] at hc;obtain⟨⟨⟨⟨⟨c1,c2⟩,c3⟩,c4⟩,rfl⟩,c5⟩:=hc;refine A4 (Du k H S E.W E.B (sc c1 ?_ c3 c4) c5 hG E.c (hb x) ht h) hG;split at c2
 ·assumption
 ·cases c2
theorem kA{tp:Nat->Stmt}{L:List (Str×Nat)}{gc:List (Str×D)}(E:EvO P w K mg base tp L gc)(j k:Nat){x:Str}{i:Nat}(e:L[j]? = some (x,i))(H:List (Nat×List Nat)×List Nat×List Nat){m:Nat}{t:TSd}{s:SpB}{G:List (Str×Nat×SpB)}(hG:xu P w K mg base G)(h:Does m t s)(hb:xw (tp i))(hc:yW (zO (tp i)) (tp i) m s.n=true:=by kernel_rfl)
  (ht:mw 40 ⟨zO (tp i),iR (tp i),G,gc,k,H.1,H.2.1,H.2.2,[],{}⟩ (jc (tp i))=some t:=by kernel_rfl):xu P w K mg base ((x,k+1,s)::G):=mS E j k e H hG h _ hb hc ht
theorem h1{st:Stmt}{p:Str}(e:vA st=[p])(h:∀(x:Str) (kV doc pm:Value) (an:Option Addr) (cdv ct u:Value),BA x st kV doc pm an cdv ct [u]=pure [(p,u)]:=by exact fun _ _ _ _ _ _ _ _=>rfl):xw st:=fun x _ _ _ _ _ _ us hl=>by
 rw [e] at hl ⊢;exact b1 (h x) _ _ _ _ _ _ us hl
theorem h2{st:Stmt}{p q:Str}(e:vA st=[p,q])(h:∀(x:Str) (kV doc pm:Value) (an:Option Addr) (cdv ct u v:Value),BA x st kV doc pm an cdv ct [u,v]=pure [(p,u),(q,v)]:=by exact fun _ _ _ _ _ _ _ _ _=>rfl):xw st:=fun x _ _ _ _ _ _ us hl=>by
 rw [e] at hl ⊢;exact b2 (h x) _ _ _ _ _ _ us hl
theorem h3{st:Stmt}{p q r:Str}(e:vA st=[p,q,r])(h:∀(x:Str) (kV doc pm:Value) (an:Option Addr) (cdv ct u v z:Value),BA x st kV doc pm an cdv ct [u,v,z]=pure [(p,u),(q,v),(r,z)]:=by exact fun _ _ _ _ _ _ _ _ _ _=>rfl):xw st:=fun x _ _ _ _ _ _ us hl=>by
 rw [e] at hl ⊢;exact b3 (h x) _ _ _ _ _ _ us hl
theorem zP{tp:Nat->Stmt}{L:List (Str×Nat)}{gc:List (Str×D)}(E:EvO P w K mg base tp L gc)(j k:Nat){x:Str}{i:Nat}(e:L[j]? = some (x,i)){s:SpB}{G:List (Str×Nat×SpB)}(hG:xu P w K mg base G)(h0:∀ ds Q,¬ s.run ds Q)(hb:xw (tp i)):xu P w K mg base ((x,k,s)::G):=by
 obtain⟨f,a,fd,F⟩:=E.S.g j e;exact A4 (ps:=vA (tp i)) (.of F (E.W _ _ a) (F.binds (hb x)) ⟨fun vs H Q E ⟨_,_,_,_,_,_,_,_,_,h⟩=>(h0 _ _ h).elim,fun A outer s H args us vs Q E _ _ _ _ ⟨_,_,_,_,_,_,_,_,_,h⟩=>(h0 _ _ h).elim⟩) hG
theorem h4{st:Stmt}{p q r s:Str}(e:vA st=[p,q,r,s])(h:∀(x:Str) (kV doc pm:Value) (an:Option Addr) (cdv ct u v z y:Value),BA x st kV doc pm an cdv ct [u,v,z,y]=pure [(p,u),(q,v),(r,z),(s,y)]:=by exact fun _ _ _ _ _ _ _ _ _ _ _=>rfl):xw st:=fun x _ _ _ _ _ _ us hl=>by
 rw [e] at hl ⊢;exact b4 (h x) _ _ _ _ _ _ us hl
end
section
open PySem L2 Dp
variable{P:Program}{w:World}{K:Frag}{mg:Str->Option Value}{base:Heap}
theorem Dv{tp:Nat->Stmt}{L:List (Str×Nat)}{gc:List (Str×D)}(E:EvO P w K mg base tp L gc)(j k:Nat){x:Str}{i:Nat}(e:L[j]? = some (x,i))(H:List (Nat×List Nat)×List Nat×List Nat){m:Nat}{t:TSd}{s:SpB}{G:List (Str×Nat×SpB)}(hG:xu P w K mg base G){xt:Xt}(hx:XtOk P w K mg base xt)(h:Does m t s)(hb:xw (tp i))(hc:yW (zO (tp i)) (tp i) m s.n=true:=by kernel_rfl)
  (ht:mw 40 ⟨zO (tp i),iR (tp i),G,gc,k,H.1,H.2.1,H.2.2,[],xt⟩ (jc (tp i))=some t:=by kernel_rfl) (hlp:xt.lp=true/\xt.gx=[]:=by exact⟨rfl,rfl⟩):xu P w K mg base ((x,k+1,s)::G):=by
 obtain⟨f,S⟩:=E.S.g j e;unfold yW at hc;simp only [aC,aY,decide_eq_true_eq] at hc;obtain⟨⟨⟨⟨⟨c1,c2⟩,c3⟩,c4⟩,rfl⟩,c5⟩:=hc;refine A4 (Cg k H S E.W E.B (sc c1 ?_ c3 c4) c5 hG E.c hx (hb x) ht h hlp) hG;split at c2
 ·assumption
 ·cases c2
theorem Dw{tp:Nat->Stmt}{L:List (Str×Nat)}{gc:List (Str×D)}(E:EvO P w K mg base tp L gc)(j k:Nat){x:Str}{i:Nat}(e:L[j]? = some (x,i))(H:List (Nat×List Nat)×List Nat×List Nat){m n:Nat}{t:TSd}{s:SpB}{G:List (Str×Nat×SpB)}(hG:xu P w K mg base G)(h:vy m t n s)(hb:xw (tp i))(hc:yW (zO (tp i)) (tp i) m s.n=true:=by kernel_rfl)
  (ht:CQ 40 ⟨zO (tp i),iR (tp i),G,gc,k,H.1,H.2.1,H.2.2,[],{}⟩ (jc (tp i))=some (t,n):=by kernel_rfl):XtOk P w K mg base { gd:=[(x,k+1,s)] }:=by
 obtain⟨f,a,fd,F⟩:=E.S.g j e;unfold yW at hc;simp only [aC,aY,decide_eq_true_eq] at hc;obtain⟨⟨⟨⟨⟨c1,c2⟩,c3⟩,c4⟩,rfl⟩,c5⟩:=hc;have z:Def P w K mg base x (k+1) (vA (tp i)) (xq K s.n s.run):=.of F (E.W _ _ a) (F.binds (hb x)) (ww (n:=40) (fz:=H.1) (own:=H.2.1) (mu:=H.2.2) F E.B (sc c1 (by split at c2;assumption;cases c2) c3 c4) c5 hG E.c Ct ht h);have n:=XtOk.no (P:=P) (w:=w) (K:=K) (mg:=mg) (base:=base);refine⟨n.xi,n.xf,n.x0,n.xc,n.gx,n.tab,n.xs,n.xm,fun y j' s' hm=>?_⟩;cases ao.mp hm;exact⟨_,z⟩
theorem CC{h:Heap}{x:Str}{n:Int}{t:Tok}(X:K.In h)(G:h.Ns mainGlobals mg)(z:PySem.W.nsIn K mainGlobals x=some (some (.int n t))):∃ v u,mg x=some u/\RelV v u/\∀ f O H,Rp K f O H (.int n) v:=⟨.int n,_,PySem.W.mg_of X G z,⟨_,rfl⟩,fun _ _ _=>rfl⟩
end
end Ds
set_option maxHeartbeats 4000000
namespace My
open PySem L2
def top(i:Nat):Stmt:=PySem.Challenge.pw_nestwright_k16_reaches_told.main.body.getD i (.Pass ⟨0,0,0,0⟩)
abbrev lT:Stmt:=top 14
abbrev lS:Stmt:=top 15
abbrev jH:Stmt:=top 16
abbrev As:Stmt:=top 32
section
variable{P:Program}{w:World}{K:Frag}{mg:Str->Option Value}{base:Heap}
def Flow(H:Hp)(f:Addr):Prop:=∃(l:Addr) (ns:List Int) (i c a b:Int),H f=some (.lst [.ref l,.int i,.int c,.int a,.int b])/\H l=some (.lst (ns.map V.int))/\ns.length<=63/\0<=i/\i<=(ns.length:Int)/\0<=c/\0<=a/\a<2147483647
theorem Bb{H:Hp}{f l:Addr}{ns:List Int}{x:Addr}{r:List V}(h1:H f=some (.lst (.ref x::r)))(h2:H l=some (.lst (ns.map V.int))):l≠f:=by
 refine xL h2 h1 fun z=>?_;injection z with z;cases ns with
 | nil=>cases z
 | cons n ns=>rw [aH] at z;injection z with z1;cases z1
theorem k9{H:Hp}{f l:Addr}{ns:List Int}{i c a b i' c' a' b':Int}(h1:H f=some (.lst [.ref l,.int i,.int c,.int a,.int b]))(h2:H l=some (.lst (ns.map V.int))) :
  i6 H f (.lst [.ref l,.int i',.int c',.int a',.int b']) f=some (.lst [.ref l,.int i',.int c',.int a',.int b'])/\i6 H f (.lst [.ref l,.int i',.int c',.int a',.int b']) l=some (.lst (ns.map V.int))/\Sm f H (i6 H f (.lst [.ref l,.int i',.int c',.int a',.int b'])):=by
 refine⟨iU,?_,fun b o n e=>?_,fun x r e=>?_⟩
 ·rw [iT (Bb h1 h2)];exact h2
 ·rw [iT n];exact e
 ·rw [h1] at e;injection e with e;injection e with e;injection e with e _;rw [← e];exact⟨_,iU⟩
theorem xl{ns:List Int}{i:Int}(h0:0<=i)(h:i<(ns.length:Int)):∃ z,tq (ns.map V.int) i=some (V.int z):=by
 obtain⟨k,rfl⟩:=aM h0;exact⟨ns[k]'(by omega),kn (by rw [aA,aw (by omega)];rfl)⟩
def kX(K:Frag):Sp:=fun vs H Q _=>∃(a:Addr) (ns:List Int),vs=[.ref a]/\SqL K H a (ns.map V.int)/\ns.length<=63/\∀ f H',Same H H'->Flow H' f->H f=none->Q (.ref f) H'
def nz:Sp:=fun vs H Q _=>∃(f:Addr) (m:Int),vs=[.ref f,.int m]/\Flow H f/\0<m/\Lt2 9000 m/\∀ d H',0<=d->d<m->Flow H' f->Sm f H H'->Q (.int d) H'
theorem gZ:FnScope ["_law_script"] ["_law_script"] (iR lT):=⟨rfl,rfl,rfl,by decide +kernel,rfl,by decide +kernel,by decide +kernel⟩
theorem wv{f:Addr}{fd:FuncData}(F:Fun K "_law_flow" "_law_flow" lT f fd)(B:Bl mg):FnOk P w K mg base om 1 f fd ["_law_script"] (kX K):=by
 refine F.ok gZ (fun vs H Q E h=>?_) (fun cdv A outer s H vs Q E hr h=>?_)
 ·obtain⟨a,ns,rfl,_⟩:=h;rfl
 obtain⟨a,ns,rfl,hS,h63,q⟩:=h;have nd:=gZ.nd;refine⟨_,(jh (@jK _ _ _ _ (@pV _ _ _ _ (@iS _ _ _ _ _ (@ki _ _ _ _ _ _ _ _ _ (uI K) rfl B.list jW (@iS _ _ _ _ _ (pv 0) pa_nil (by rfl)) (by decide) (by decide) (by rfl) (by rfl)) (@iS _ _ _ _ _ iV (@iS _ _ _ _ _ iV (@iS _ _ _ _ _ iV (@iS _ _ _ _ _ iV pa_nil (by rfl)) (by rfl)) (by rfl)) (by rfl)) (by rfl))))),?_⟩;refine⟨_,rfl,a,_,rfl,.inl hS,fun l hl=>⟨(by show 5<=sizeLine;decide),fun p hp=>?_⟩⟩;have hpl:l≠p:=iZ iU hp;refine q p _ ((Same.new hl _).trans (Same.new hp _)) ⟨l,ns,0,0,1,0,iU,?_,h63,by decide,by omega,by decide,by decide,by decide⟩ ?_
 ·rw [iT hpl];exact iU
 ·rw [iT (Ne.symm hpl)] at hp;exact hp
theorem g6:FnScope ["_law_flow_here", "_law_many", "_law_cell", "_law_digit"] ["_law_flow_here", "_law_many"] (iR lS):=⟨rfl,rfl,rfl,by decide +kernel,rfl,by decide +kernel,by decide +kernel⟩
theorem wt{f0:Addr}{fd:FuncData}(F:Fun K "_law_pick" "_law_pick" lS f0 fd)(B:Bl mg):FnOk P w K mg base om 1 f0 fd ["_law_flow_here", "_law_many"] nz:=by
 refine F.ok g6 (fun vs H Q E h=>?_) (fun cdv A outer s H vs Q E hr h=>?_)
 ·obtain⟨a,ns,rfl,_⟩:=h;rfl
 obtain⟨f,m,rfl,hF,hm0,hm1,q⟩:=h;have nd:=g6.nd;refine⟨_,(kN (@lu _ _ _ _ _ _ _ _ (PW.pt (tZ (@jS _ _ _ _ _ _ _ _ oM (@jt _ _ _ _ _ _ _ (pD K) (pv 0) iV (fun _ _=>rfl)) iV (jU _)) (qR (@jS _ _ _ _ _ _ _ _ xH (@jt _ _ _ _ _ _ _ (pD K) (pv 0) iV (fun _ _=>rfl)) (@i7 _ _ _ _ _ _ _ _ _ (sJ K) rfl B.len ln (@iS _ _ _ _ _ (@jt _ _ _ _ _ _ _ (pD K) (pv 0) iV (fun _ _=>rfl)) pa_nil (by rfl)) (by decide) (by decide) (by rfl) (by rfl)) (jU _))))) (jq (@jJ _ _ 2 _ _ _ _ nd rfl (by first|exact Or.inl rfl|exact Or.inr rfl) (@jt _ _ _ _ _ _ _ (pD K) (@jt _ _ _ _ _ _ _ (pD K) (pv 0) iV (fun _ _=>rfl)) (@jt _ _ _ _ _ _ _ (pD K) (pv 0) iV (fun _ _=>rfl)) (fun _ _=>rfl)) (by rfl) (by first|exact .inl rfl|exact .inr rfl|assumption))
  (jq (@j4 _ _ _ _ _ _ (@ji _ _ _ _ _ _ _ _ jT (@jt _ _ _ _ _ _ _ (pD K) (pv 0) iV (fun _ _=>rfl)) iV) (@ky _ _ _ _ _ _ _ (pv 0) iV jz (fun _=>rfl)) (by rfl) (by rfl) (by rfl))
  (jh (@lu _ _ _ _ _ _ _ _ (@jS _ _ _ _ _ _ _ _ xJ (pv 2) (@ji _ _ _ _ _ _ _ _ ux iV iV) (jU _)) (jh (@j4 _ _ _ _ _ _ (pv 2) (@ky _ _ _ _ _ _ _ (pv 0) iV jz (fun _=>rfl)) (by rfl) (by rfl) (by rfl))) (jh (@j4 _ _ _ _ _ _ (@ji _ _ _ _ _ _ _ _ kz (@ji _ _ _ _ _ _ _ _ jT (@ji _ _ _ _ _ _ _ _ jT (@ji _ _ _ _ _ _ _ _ pX (@jt _ _ _ _ _ _ _ (pD K) (pv 0) iV (fun _ _=>rfl)) iV) (@ji _ _ _ _ _ _ _ _ kz (pv 2) iV)) iV) iV) (@ky _ _ _ _ _ _ _ (pv 0) iV jz (fun _=>rfl)) (by rfl) (by rfl) (by rfl))))))) pss_nil)
  (kN (@lu _ _ _ _ _ _ _ _ (@jS _ _ _ _ _ _ _ _ xI (@jt _ _ _ _ _ _ _ (pD K) (pv 0) iV (fun _ _=>rfl)) iV (jU _)) (jq (@jJ _ _ 3 _ _ _ _ nd rfl (by first|exact Or.inl rfl|exact Or.inr rfl) (@ji _ _ _ _ _ _ _ _ kz (@jt _ _ _ _ _ _ _ (pD K) (pv 0) iV (fun _ _=>rfl)) (pv 1)) (by rfl) (by first|exact .inl rfl|exact .inr rfl|assumption))
  (jq (@j4 _ _ _ _ _ _ (@ji _ _ _ _ _ _ _ _ (@oK _ _ hr) (@jt _ _ _ _ _ _ _ (pD K) (pv 0) iV (fun _ _=>rfl)) (pv 1)) (@ky _ _ _ _ _ _ _ (pv 0) iV jz (fun _=>rfl)) (by rfl) (by rfl) (by rfl))
  (jh (@jK _ _ _ _ (pv 3))))) pss_nil)
  (jq (@j4 _ _ _ _ _ _ (@ji _ _ _ _ _ _ _ _ jT (@jt _ _ _ _ _ _ _ (pD K) (pv 0) iV (fun _ _=>rfl)) iV) (@ky _ _ _ _ _ _ _ (pv 0) iV jz (fun _=>rfl)) (by rfl) (by rfl) (by rfl))
  (jq (@j4 _ _ _ _ _ _ (@ji _ _ _ _ _ _ _ _ kz (@ji _ _ _ _ _ _ _ _ jT (@ji _ _ _ _ _ _ _ _ jT (@ji _ _ _ _ _ _ _ _ pX (@jt _ _ _ _ _ _ _ (pD K) (pv 0) iV (fun _ _=>rfl)) iV) iV) (@jt _ _ _ _ _ _ _ (pD K) (pv 0) iV (fun _ _=>rfl))) iV) (@ky _ _ _ _ _ _ _ (pv 0) iV jz (fun _=>rfl)) (by rfl) (by rfl) (by rfl))
  (jh (@jK _ _ _ _ (@ji _ _ _ _ _ _ _ _ kz (@ji _ _ _ _ _ _ _ _ qW (@ji _ _ _ _ _ _ _ _ kz (@ji _ _ _ _ _ _ _ _ pX (@ji _ _ _ _ _ _ _ _ jT (@ji _ _ _ _ _ _ _ _ kz (@jt _ _ _ _ _ _ _ (pD K) (pv 0) iV (fun _ _=>rfl)) iV) iV) (@ji _ _ _ _ _ _ _ _ jT (@ji _ _ _ _ _ _ _ _ qW (@jt _ _ _ _ _ _ _ (pD K) (pv 0) iV (fun _ _=>rfl)) iV) iV)) iV) iV) (pv 1)))))))),?_⟩
 obtain⟨l,ns,i,c,a,b,h1,h2,h63,i0,i1,c0,a0,a1⟩:=hF;have hf:=SqL.of (K:=K) h1;refine⟨fun σ' H'=>(∃ o1 o2,σ'=[some (.ref f),some (.int m),o1,o2])/\Flow H' f/\Sm f H H',?_,?_⟩
 ·refine⟨_,rfl,f,_,2,_,rfl,rfl,hf,rfl,rfl,_,rfl,?_⟩;refine wM (fun cz=>?_) (fun cz=>?_)
  ·refine⟨_,rfl,f,_,1,_,rfl,rfl,hf,rfl,_,rfl,f,_,0,_,rfl,rfl,hf,rfl,l,_,rfl,.inl (SqL.of h2),_,_,rfl,rfl,_,rfl,?_⟩;refine wM (fun cl=>?_) (fun cl=>?_)
   ·have cl':i<(((ns.map V.int).length:Nat):Int):=of_decide_eq_true cl;rw [aj] at cl';obtain⟨z,hz⟩:=xl i0 cl';obtain⟨g1,g2,g3⟩:=k9 (i':=i+1) (c':=c) (a':=a) (b':=b) h1 h2;have gf:=SqL.of (K:=K) g1;refine⟨_,rfl,f,_,0,_,rfl,rfl,hf,rfl,_,rfl,f,_,1,_,rfl,rfl,hf,rfl,l,_,i,_,rfl,rfl,SqL.of h2,hz,?_⟩;refine⟨_,rfl,f,_,1,_,rfl,rfl,hf,rfl,_,_,rfl,rfl,_,rfl,f,_,1,1,rfl,rfl,h1,rfl,?_⟩;refine⟨_,rfl,_,_,rfl,rfl,⟨by decide,by decide,by decide⟩,_,_,rfl,rfl,_,rfl,?_⟩;refine wM (fun cg=>?_) (fun cg=>?_)
    ·have cg':(10:Int)^(18:Int).toNat<=z:=of_decide_eq_true cg;have cg2:(0:Int)<=z:=Int.le_trans (by decide) cg';obtain⟨k1,k2,k3⟩:=k9 (i':=i+1) (c':=z) (a':=a) (b':=b) g1 g2;refine⟨_,rfl,_,rfl,f,_,2,2,rfl,rfl,g1,rfl,?_⟩;exact⟨⟨_,_,rfl⟩,⟨l,ns,i+1,z,a,b,k1,k2,h63,by omega,by omega,cg2,a0,a1⟩,g3.trans k3⟩
    ·obtain⟨k1,k2,k3⟩:=k9 (i':=i+1) (c':=c) (a':=(a*40013+z%1000003+1)%2147483647) (b':=b) g1 g2;refine⟨_,rfl,f,_,3,_,rfl,rfl,gf,rfl,_,_,rfl,rfl,.inr ⟨by decide,by decide⟩,_,rfl,_,_,rfl,rfl,(by show (0:Int)<_;decide),_,_,rfl,rfl,_,_,rfl,rfl,_,_,rfl,rfl,(by show (0:Int)<_;decide),_,rfl,f,_,3,3,rfl,rfl,g1,rfl,?_⟩;exact⟨⟨_,_,rfl⟩,⟨l,ns,i+1,c,_,b,k1,k2,h63,by omega,by omega,c0,bN _ (by decide),bE _ (by decide)⟩,g3.trans k3⟩
   ·exact⟨⟨_,_,rfl⟩,⟨l,ns,i,c,a,b,h1,h2,h63,i0,i1,c0,a0,a1⟩,Sm.refl H⟩
  ·exact ze ⟨⟨_,_,rfl⟩,⟨l,ns,i,c,a,b,h1,h2,h63,i0,i1,c0,a0,a1⟩,Sm.refl H⟩
 ·rintro _ H1 ⟨⟨o1,o2,rfl⟩,hF1,sm1⟩;clear hf h1 h2 i0 i1 c0 a0 a1 h63;obtain⟨l,ns,i,c,a,b,h1,h2,h63,i0,i1,c0,a0,a1⟩:=hF1;have hf:=SqL.of (K:=K) h1;refine⟨fun σ' H'=>σ'=[some (.ref f),some (.int m),o1,o2]/\H'=H1,?_,?_⟩
  ·refine⟨_,rfl,f,_,2,_,rfl,rfl,hf,rfl,_,_,rfl,rfl,_,rfl,?_⟩;refine wM (fun cz=>?_) (fun cz=>?_)
   ·obtain⟨k1,k2,k3⟩:=k9 (i':=i) (c':=c.fdiv m) (a':=a) (b':=b) h1 h2;refine⟨_,rfl,f,_,2,_,rfl,rfl,hf,rfl,_,rfl,_,_,rfl,rfl,hm0,?_⟩;have fe:c.fdiv m=c / m:=bP _ (by omega:(0:Int)<=m);refine⟨_,rfl,f,_,2,_,rfl,rfl,hf,rfl,_,rfl,_,_,rfl,rfl,⟨by omega,9000,hm1,by decide⟩,_,rfl,f,_,2,2,rfl,rfl,h1,rfl,?_⟩;refine⟨_,rfl,q _ _ (bN _ (by omega)) (bE _ hm0) ⟨l,ns,i,c.fdiv m,a,b,k1,k2,h63,i0,i1,by rw [fe];exact Int.ediv_nonneg c0 (by omega),a0,a1⟩ (sm1.trans k3)⟩
   ·exact⟨rfl,rfl⟩
  ·rintro _ _ ⟨rfl,rfl⟩;obtain⟨g1,g2,g3⟩:=k9 (i':=i) (c':=c) (a':=a) (b':=b+1) h1 h2;have gf:=SqL.of (K:=K) g1;refine⟨_,rfl,f,_,4,_,rfl,rfl,hf,rfl,_,_,rfl,rfl,_,rfl,f,_,4,4,rfl,rfl,h1,rfl,?_⟩;obtain⟨k1,k2,k3⟩:=k9 (i':=i) (c':=c) (a':=(a*48271+12820163+(b+1))%2147483647) (b':=b+1) g1 g2;have kf:=SqL.of (K:=K) k1;refine⟨_,rfl,f,_,3,_,rfl,rfl,gf,rfl,_,_,rfl,rfl,.inr ⟨by decide,by decide⟩,_,_,rfl,rfl,_,rfl,f,_,4,_,rfl,rfl,gf,rfl,_,_,rfl,rfl,_,_,rfl,rfl,(by show (0:Int)<_;decide),_,rfl,f,_,3,3,rfl,rfl,g1,rfl,?_⟩;have n0:=bN (a*48271+12820163+(b+1)) (show (2147483647:Int)≠0 by decide);have n1:=bE (a*48271+12820163+(b+1)) (show (0:Int)<2147483647 by decide);refine⟨_,rfl,f,_,3,_,rfl,rfl,kf,rfl,_,_,rfl,rfl,(by show (0:Int)<_;decide),_,_,rfl,rfl,_,rfl,f,_,3,_,rfl,rfl,kf,rfl,_,_,rfl,rfl,⟨by decide,by decide⟩,_,_,rfl,rfl,_,_,rfl,rfl,.inl ⟨by omega,by omega⟩,_,_,rfl,rfl,(by show (0:Int)<_;decide),_,_,rfl,rfl,⟨by decide,by decide⟩,_,rfl,_,_,rfl,rfl,hm0,?_⟩;exact q _ _ (bN _ (by omega)) (bE _ hm0) ⟨l,ns,i,c,_,b+1,k1,k2,h63,i0,i1,c0,n0,n1⟩ ((sm1.trans g3).trans k3)
def jP(K:Frag)(n:Nat):Sp:=fun vs H Q _=>∃(d:DV) (x y:V),vs=[x,y]/\Rep K H d x/\Rep K H d y/\d.dp<n/\d.wd<=100000/\∀ H',Same H H'->Q (.bl true) H'
theorem eY:FnScope ["_law_found", "_law_due", "_law_k"] ["_law_found", "_law_due"] (iR jH):=⟨rfl,rfl,rfl,by decide +kernel,rfl,by decide +kernel,by decide +kernel⟩
theorem qC{n:Nat}{f0:Addr}{fd:FuncData}(F:Fun K "_law_alike" "_law_alike" jH f0 fd)(B:Bl mg)(g_law_alike:Def P w K mg base "_law_alike" n ["_law_found", "_law_due"] (jP K n)):FnOk P w K mg base om (n+1) f0 fd ["_law_found", "_law_due"] (jP K (n+1)):=by
 refine F.ok eY (fun vs H Q E h=>?_) (fun cdv A outer s H vs Q E hr h=>?_)
 ·obtain⟨d,x,y,rfl,_⟩:=h;rfl
 obtain⟨d,x,y,rfl,hx,hy,hd,hw,q⟩:=h;have nd:=eY.nd;refine⟨_,(kN (@lu _ _ _ _ _ _ _ _ (Do K (@i7 _ _ _ _ _ _ _ _ _ (Cp K) rfl B.isinstance i5 (@iS _ _ _ _ _ (pv 1) (@iS _ _ _ _ _ (@pT _ _ _ _ _ (@iS _ _ _ _ _ (@jx _ _ (.ty "list") _ _ rfl B.list jW rfl (by decide) (by decide)) (@iS _ _ _ _ _ (@jx _ _ (.ty "tuple") _ _ rfl B.tuple ka rfl (by decide) (by decide)) pa_nil (by rfl)) (by rfl))) pa_nil (by rfl)) (by rfl)) (by decide) (by decide) (by rfl) (by rfl)) (fun _=>rfl)) (kN (@lu _ _ _ _ _ _ _ _ (@jS _ _ _ _ _ _ _ _ uy (@i7 _ _ _ _ _ _ _ _ _ (zi K) rfl B.isinstance i5 (@iS _ _ _ _ _ (pv 0) (@iS _ _ _ _ _ (@jx _ _ (.ty "list") _ _ rfl B.list jW rfl (by decide) (by decide)) pa_nil (by rfl)) (by rfl)) (by decide) (by decide) (by rfl) (by rfl)) (@i7 _ _ _ _ _ _ _ _ _ (zi K) rfl B.isinstance i5 (@iS _ _ _ _ _ (pv 1) (@iS _ _ _ _ _ (@jx _ _ (.ty "list") _ _ rfl B.list jW rfl (by decide) (by decide)) pa_nil (by rfl)) (by rfl)) (by decide) (by decide) (by rfl) (by rfl)) (jU _)) (jh (@jK _ _ _ _ uh)) pss_nil)
  (kN (@lu _ _ _ _ _ _ _ _ (@jS _ _ _ _ _ _ _ _ uy (@i7 _ _ _ _ _ _ _ _ _ (zi K) rfl B.isinstance i5 (@iS _ _ _ _ _ (pv 0) (@iS _ _ _ _ _ (@jx _ _ (.ty "tuple") _ _ rfl B.tuple ka rfl (by decide) (by decide)) pa_nil (by rfl)) (by rfl)) (by decide) (by decide) (by rfl) (by rfl)) (@i7 _ _ _ _ _ _ _ _ _ (zi K) rfl B.isinstance i5 (@iS _ _ _ _ _ (pv 1) (@iS _ _ _ _ _ (@jx _ _ (.ty "tuple") _ _ rfl B.tuple ka rfl (by decide) (by decide)) pa_nil (by rfl)) (by rfl)) (by decide) (by decide) (by rfl) (by rfl)) (jU _)) (jh (@jK _ _ _ _ uh)) pss_nil)
  (jh (@jK _ _ _ _ (pW (@lF _ _ _ _ _ _ _ _ oM (@i7 _ _ _ _ _ _ _ _ _ (sJ K) rfl B.len ln (@iS _ _ _ _ _ (pv 0) pa_nil (by rfl)) (by decide) (by decide) (by rfl) (by rfl)) (@i7 _ _ _ _ _ _ _ _ _ (sJ K) rfl B.len ln (@iS _ _ _ _ _ (pv 1) pa_nil (by rfl)) (by decide) (by decide) (by rfl) (by rfl)) (jU _)) (@pU _ _ _ _ _ (@i7 _ _ _ _ _ _ _ _ _ (Bo K) rfl B.all vo (@iS _ _ _ _ _ (@qT _ _ _ _ _ _ _ _ _ _ _ _ rfl (show CompS ["_law_found", "_law_due", "_law_k"] (iR jH) _ [2] from by exact⟨rfl,by decide +kernel,by decide +kernel,by decide +kernel,by decide +kernel⟩) (mM rfl B.range (@iS _ _ _ _ _ (@i7 _ _ _ _ _ _ _ _ _ (sJ K) rfl B.len ln (@iS _ _ _ _ _ (pv 1) pa_nil (by rfl)) (by decide) (by decide) (by rfl) (by rfl)) pa_nil (by rfl))) (fun _ _ _ _ _=>(@nE _ _ 2 _ nd rfl (by first|exact Or.inl rfl|exact Or.inr rfl) (by first|exact .inl rfl|exact .inr rfl|assumption))) (fun _ _ _ _ _=>pts_nil) (fun _ _ _ _ _=>(@lX _ _ _ _ _ _ _ _ _ _ _ g_law_alike hr (@iS _ _ _ _ _ (@jt _ _ _ _ _ _ _ (CZ K) (pv 0) (pv 2) (fun _ _=>rfl)) (@iS _ _ _ _ _ (@jt _ _ _ _ _ _ _ (CZ K) (pv 1) (pv 2) (fun _ _=>rfl)) pa_nil (by rfl)) (by rfl)) (by first|decide|omega|exact ai _) (by rfl) (by decide) (by rfl) (by rfl))) (by intro _;rfl)) pa_nil (by rfl)) (by decide) (by decide) (by rfl) (by rfl)))))))) pss_nil)
  (jh (@jK _ _ _ _ (pW (@lF _ _ _ _ _ _ _ _ oM (@i7 _ _ _ _ _ _ _ _ _ (zi K) rfl B.isinstance i5 (@iS _ _ _ _ _ (pv 0) (@iS _ _ _ _ _ (@jx _ _ (.ty "bool") _ _ rfl B.bool oi rfl (by decide) (by decide)) pa_nil (by rfl)) (by rfl)) (by decide) (by decide) (by rfl) (by rfl)) (@i7 _ _ _ _ _ _ _ _ _ (zi K) rfl B.isinstance i5 (@iS _ _ _ _ _ (pv 1) (@iS _ _ _ _ _ (@jx _ _ (.ty "bool") _ _ rfl B.bool oi rfl (by decide) (by decide)) pa_nil (by rfl)) (by rfl)) (by decide) (by decide) (by rfl) (by rfl)) (jU _)) (@pU _ _ _ _ _ (@lF _ _ _ _ _ _ _ _ oM (pv 0) (pv 1) (jU _))))))),?_⟩
 rcases r0 hx hy with⟨rfl,t,bb,ty,hs,k1,k2,sc⟩|⟨tt,a,a',xs,ys,ds,rfl,rfl,q1,q2,r1,r2,e1,e2,e3⟩
 ·refine⟨fun σ H'=>σ=[some x,some x,none]/\Same H H',?_,?_⟩
  ·refine⟨_,rfl,(by show 2<=sizeLine;decide),fun p hp=>?_⟩;refine⟨x,p,t,false,["list", "tuple"],rfl,ty _,hs,iU,k1,_,rfl,?_⟩;exact ze ⟨rfl,Same.new hp _⟩
  ·rintro _ H1 ⟨rfl,s1⟩;refine⟨_,rfl,_,_,_,_,rfl,ty _,k2,_,rfl,_,_,_,_,rfl,ty _,k2,rfl,_,rfl,?_⟩;rw [decide_eq_true rfl];refine zd ?_;refine⟨_,rfl,_,rfl,sc,?_⟩;rw [decide_eq_true rfl];exact q H1 s1
 ·have l1:=r1.length;have l2:=r2.length;obtain⟨k0,⟨b1,k1⟩,⟨b2,k2⟩⟩:=q1.kit;refine⟨fun σ H'=>False,?_,fun _ _ z=>z.elim⟩;refine⟨_,rfl,(by show 2<=sizeLine;decide),fun p hp=>?_⟩;have s1:=Same.new hp (.tup [.ty "list",.ty "tuple"]);refine⟨_,p,.type tt,true,["list", "tuple"],rfl,(q2.same s1).ty,nofun,iU,k0,_,rfl,?_⟩;refine zd ?_;have e1':=q1.same s1;have e2':=q2.same s1;refine⟨fun σ H'=>σ=[some (.ref a),some (.ref a'),none]/\H'=i6 H p (.tup [.ty "list",.ty "tuple"]),?_,?_⟩
  ·refine⟨_,rfl,_,_,_,_,rfl,e1'.ty,k1,_,rfl,_,_,_,_,rfl,e2'.ty,k1,rfl,_,rfl,?_⟩;exact xN rfl ⟨rfl,rfl⟩
  ·rintro _ _ ⟨rfl,rfl⟩;refine⟨fun σ H'=>σ=[some (.ref a),some (.ref a'),none]/\H'=i6 H p (.tup [.ty "list",.ty "tuple"]),?_,?_⟩
   ·refine⟨_,rfl,_,_,_,_,rfl,e1'.ty,k2,_,rfl,_,_,_,_,rfl,e2'.ty,k2,rfl,_,rfl,?_⟩;exact xN rfl ⟨rfl,rfl⟩
   ·rintro _ _ ⟨rfl,rfl⟩;refine⟨_,rfl,a,xs,rfl,e1'.len,_,rfl,a',ys,rfl,e2'.len,rfl,_,rfl,?_⟩;rw [decide_eq_true (show V.int (xs.length:Int)=V.int (ys.length:Int) by rw [← l1,← l2])];refine zd ?_;refine⟨_,rfl,a',ys,rfl,e2'.len,_,rfl,by omega,by omega,?_⟩;rw [aI];refine qw (n:=ys.length) (by rw [sizeLine_eq];omega) (fun i τ zs H'=>(∃ o,τ=[some (.ref a),some (.ref a'),o])/\Same H H'/\zs=(List.replicate i true).map V.bl) ⟨⟨none,rfl⟩,s1,rfl⟩ ?_ ?_
    ·rintro i _ _ H1 hi hl ⟨⟨o,rfl⟩,s2,rfl⟩;obtain⟨v1,hv1⟩:∃ v,xs[i]? = some v:=⟨xs[i]'(by omega),aw _⟩;obtain⟨v2,hv2⟩:∃ v,ys[i]? = some v:=⟨ys[i]'hi,aw _⟩;obtain⟨d1,hd1,rp1⟩:=(r1.same s2).get hv1;obtain⟨d2,hd2,rp2⟩:=(r2.same s2).get hv2;rw [hd1] at hd2;cases hd2;have wm:=qI (aF hd1);have ei:(0:Int)+(i:Int)=(i:Int):=Int.zero_add _;refine⟨_,rfl,_,rfl,(q1.same s2).ix (by rw [ei];exact kn hv1) ?_⟩;refine⟨_,rfl,_,rfl,(q2.same s2).ix (by rw [ei];exact kn hv2) ?_⟩;refine⟨d1,v1,v2,rfl,rp1,rp2,by omega,by omega,fun H2 s3=>?_⟩;refine Dr hi hl ⟨⟨_,rfl⟩,s2.trans s3,?_⟩;rw [List.replicate_succ',aR];rfl
    ·rintro _ _ H1 D hl ⟨⟨o,rfl⟩,s2,rfl⟩ hD;refine⟨D,_,rfl,SqL.of iU,?_⟩;have:(List.replicate ys.length true).all id=true:=by simp
     rw [this];exact q _ (s2.trans (Same.new hD _))
theorem qE{f0:Addr}{fd:FuncData}:FnOk P w K mg base om 0 f0 fd ["_law_found", "_law_due"] (jP K 0):=by
 have no:∀ vs H Q E,¬ jP K 0 vs H Q E:=fun vs H Q E h=>by
  obtain⟨d,x,y,_,_,_,h1,_⟩:=h;omega
 exact⟨fun vs H Q E h=>absurd h (no vs H Q E),fun A outer s H args us vs Q E _ _ _ _ h=>absurd h (no vs H Q E)⟩
theorem kO{f0:Addr}{fd:FuncData}(F:Fun K "_law_alike" "_law_alike" jH f0 fd)(B:Bl mg)(m:mg "_law_alike" = some (.ref f0))(b:Binds K fd ["_law_found", "_law_due"] []):∀ n,FnOk P w K mg base om n f0 fd ["_law_found", "_law_due"] (jP K n)
 | 0=>qE
 | n+1=>qC F B (.of F m b (kO F B m b n))
theorem iN:FnScope ["_law_script", "_law_flow_here", "_law_one", "_law_other"] ["_law_script"] (iR As):=Ds.sc (by kernel_rfl) rfl rfl rfl
end
def tab:List (Str×Nat):=("inner_terms",7)::("look_for_names",8)::("again_reach",9)::("reach_by",10)::("reach_within",11)::("reaches",12)::("_law_flow",14)::("_law_pick",15)::("_law_alike",16)::("_law_common",17)::("_law_fraction",18)::("_law_number",19)::("_law_word",20)::("_law_words",21)::("_law_leaf",22)::("_law_term",23)::("_law_inner",24)::("_law_parts",25)::("_law_multiplied",26)::("_law_reach",27)::("_law_heft",28)::("_law_is_light",29)::("_law_reckoning",30)::("_law_right",31)::("law",32)::[]
theorem zH{l:PySem.W.OpenLaw}{w:World}{K:Frag}{h:Heap}{mg:Str->Option Value}{fa:Addr}(X:K.In h)(G:h.Ns mainGlobals mg)(hfa:mg "law" = some (.ref fa))(S:Ds.SlS top K tab)(Z:Ds.ZsO K Ds.C8){tMOST_REACH:Tok}(zMOST_REACH:PySem.W.nsIn K mainGlobals "MOST_REACH" = some (some (.int 24 tMOST_REACH)))
  : ∃ fd:FuncData,(∀(s:Shared) (v:Value),BindsTo s fd ⟨[v],[]⟩ [("_law_script",v)])/\∀ base:Heap,K.In base->base.Ns mainGlobals mg->FnOk l.prog w K mg base om 11 fa fd ["_law_script"] (Dp.oE K):=by
 have B:Bl mg:=Ds.Bm X G Z;have W:Ds.Mg K mg:=fun _ _ a=>PySem.W.mg_of X G a;obtain⟨f,a,fd,F⟩:=S.g (x := "law") 24 rfl;cases hfa.symm.trans (W _ _ a);refine⟨fd,?_,fun base _ _=>?_⟩
 ·obtain⟨oc,od,kV,doc,pm,an,cdv,ct,osl,rfl,lk,hcd⟩:=F.ex;exact fun s v=>.of_eq rfl
 have E:Ds.EvO l.prog w K mg base top tab [("MOST_REACH",(.int 24))]:=⟨S,W,B,(Ds.Dz (Ds.CC X G zMOST_REACH) Ds.DA)⟩;have gf:Def l.prog w K mg base "_law_flow" 1 ["_law_script"] (kX K):=by
  obtain⟨f,a,fd,F⟩:=S.g (x := "_law_flow") 6 rfl;exact .of F (W _ _ a) (F.binds (Ds.b1 fun _ _ _ _ _ _ _=>rfl)) (wv F B)
 have gp:Def l.prog w K mg base "_law_pick" 1 ["_law_flow_here", "_law_many"] (Dp.ms K Dp.df.n Dp.df.run):=by
  obtain⟨f,a,fd,F⟩:=S.g (x := "_law_pick") 7 rfl;exact Dp.sg (.of F (W _ _ a) (F.binds (Ds.b2 fun _ _ _ _ _ _ _ _=>rfl)) (wt F B))
 have G0:=Ds.A4 gp Ds.Dy;have ga:Def l.prog w K mg base "_law_alike" 3 ["_law_found", "_law_due"] (Dp.ms K (Dp.dD 3).n (Dp.dD 3).run):=by
  obtain⟨f,a,fd,F⟩:=S.g (x := "_law_alike") 8 rfl;exact Dp.qF (.of F (W _ _ a) (F.binds (Ds.b2 fun _ _ _ _ _ _ _ _=>rfl)) (kO F B (W _ _ a) (F.binds (Ds.b2 fun _ _ _ _ _ _ _ _=>rfl)) 3))
 have Ga:=Ds.A4 ga G0;have G0:=Ds.kA E 0 0 rfl Ds.o0 Ga Dp.e8 (Ds.h1 rfl);have G2:=Ds.kA E 2 0 rfl Ds.o0 G0 Dp.fb (Ds.h2 rfl);have G9:=Ds.kA E 9 0 rfl Ds.o0 G2 Dp.fk (Ds.h2 rfl);have G16:=Ds.kA E 16 0 rfl Ds.o0 G9 Dp.fB (Ds.h1 rfl);have G18:=Ds.kA E 18 0 rfl Ds.o0 G16 Dp.eG (Ds.h2 rfl);have G3:=Ds.kA E 3 1 rfl Ds.o0 G18 Dp.fT (Ds.h3 rfl);have G10:=Ds.kA E 10 1 rfl Ds.o0 G3 Dp.eS (Ds.h2 rfl);have G11:=Ds.kA E 11 1 rfl Ds.o0 G10 Dp.fm (Ds.h2 rfl);have G12:=Ds.mS E 12 1 rfl Ds.o0 G11 Dp.fJ ["_law_flow_here", "_law_letters", "_law_word_here", "_law_k"] (Ds.h1 rfl);have G13:=Ds.kA E 13 2 rfl ([(122,[7]),(4000118,[])],[112],[7]) G12 Dp.fA (Ds.h2 rfl);have G14:=Ds.kA E 14 2 rfl Ds.o0 G13 Dp.fQ (Ds.h2 rfl);have V1:=Ds.zP E 1 1 rfl G14 Dp.kU (Ds.h2 rfl);have G1a:=Ds.kA E 1 1 rfl Ds.o0 V1 (Dp.dr 0) (Ds.h2 rfl);have G1b:=Ds.kA E 1 2 rfl Ds.o0 G1a (Dp.dr 1) (Ds.h2 rfl);have G1c:=Ds.kA E 1 3 rfl Ds.o0 G1b (Dp.dr 2) (Ds.h2 rfl);have G1d:=Ds.kA E 1 4 rfl Ds.o0 G1c (Dp.dr 3) (Ds.h2 rfl);have G1e:=Ds.kA E 1 5 rfl Ds.o0 G1d (Dp.dr 4) (Ds.h2 rfl);have G1f:=Ds.kA E 1 6 rfl Ds.o0 G1e (Dp.dr 5) (Ds.h2 rfl);have V17:=Ds.zP E 17 1 rfl G1f Dp.oA (Ds.h1 rfl);have G17a:=Ds.kA E 17 1 rfl ([(151,[1])],[148],[1]) V17 (Dp.dH 0) (Ds.h1 rfl);have G17b:=Ds.kA E 17 2 rfl ([(151,[1])],[148],[1]) G17a (Dp.dH 1) (Ds.h1 rfl);have G17c:=Ds.kA E 17 3 rfl ([(151,[1])],[148],[1]) G17b (Dp.dH 2) (Ds.h1 rfl);have G17d:=Ds.kA E 17 4 rfl ([(151,[1])],[148],[1]) G17c (Dp.dH 3) (Ds.h1 rfl);have G17e:=Ds.kA E 17 5 rfl ([(151,[1])],[148],[1]) G17d (Dp.dH 4) (Ds.h1 rfl);have G17f:=Ds.kA E 17 6 rfl ([(151,[1])],[148],[1]) G17e (Dp.dH 5) (Ds.h1 rfl);have V19:=Ds.zP E 19 1 rfl G17f Dp.oz (Ds.h2 rfl);have G19a:=Ds.mS E 19 1 rfl Ds.o0 V19 (Dp.dI 0) ["_law_term_here", "_law_known", "_law_some", "_law_one"] (Ds.h2 rfl);have G19b:=Ds.mS E 19 2 rfl Ds.o0 G19a (Dp.dI 1) ["_law_term_here", "_law_known", "_law_some", "_law_one"] (Ds.h2 rfl);have G19c:=Ds.mS E 19 3 rfl Ds.o0 G19b (Dp.dI 2) ["_law_term_here", "_law_known", "_law_some", "_law_one"] (Ds.h2 rfl);have G19d:=Ds.mS E 19 4 rfl Ds.o0 G19c (Dp.dI 3) ["_law_term_here", "_law_known", "_law_some", "_law_one"] (Ds.h2 rfl);have G19e:=Ds.mS E 19 5 rfl Ds.o0 G19d (Dp.dI 4) ["_law_term_here", "_law_known", "_law_some", "_law_one"] (Ds.h2 rfl);have G19f:=Ds.mS E 19 6 rfl Ds.o0 G19e (Dp.dI 5) ["_law_term_here", "_law_known", "_law_some", "_law_one"] (Ds.h2 rfl);have V20:=Ds.zP E 20 1 rfl G19f Dp.pG (Ds.h2 rfl);have G20a:=Ds.mS E 20 1 rfl Ds.o0 V20 (Dp.dM 0) ["_law_term_here", "_law_known", "_law_some", "_law_one", "_law_many", "_law_more", "_law_found", "_law_turn"] (Ds.h2 rfl);have G20b:=Ds.mS E 20 2 rfl Ds.o0 G20a (Dp.dM 1) ["_law_term_here", "_law_known", "_law_some", "_law_one", "_law_many", "_law_more", "_law_found", "_law_turn"] (Ds.h2 rfl);have G20c:=Ds.mS E 20 3 rfl Ds.o0 G20b (Dp.dM 2) ["_law_term_here", "_law_known", "_law_some", "_law_one", "_law_many", "_law_more", "_law_found", "_law_turn"] (Ds.h2 rfl);have G20d:=Ds.mS E 20 4 rfl Ds.o0 G20c (Dp.dM 3) ["_law_term_here", "_law_known", "_law_some", "_law_one", "_law_many", "_law_more", "_law_found", "_law_turn"] (Ds.h2 rfl);have G20e:=Ds.mS E 20 5 rfl Ds.o0 G20d (Dp.dM 4) ["_law_term_here", "_law_known", "_law_some", "_law_one", "_law_many", "_law_more", "_law_found", "_law_turn"] (Ds.h2 rfl);have G20f:=Ds.mS E 20 6 rfl Ds.o0 G20e (Dp.dM 5) ["_law_term_here", "_law_known", "_law_some", "_law_one", "_law_many", "_law_more", "_law_found", "_law_turn"] (Ds.h2 rfl);have V4:=Ds.zP E 4 2 rfl G20f Dp.lM (Ds.h3 rfl);have G4a:=Ds.mS E 4 2 rfl Ds.o0 V4 (Dp.dA 0) ["term", "known", "row", "inner", "part", "reach"] (Ds.h3 rfl);have G4b:=Ds.mS E 4 3 rfl Ds.o0 G4a (Dp.dA 1) ["term", "known", "row", "inner", "part", "reach"] (Ds.h3 rfl);have G4c:=Ds.mS E 4 4 rfl Ds.o0 G4b (Dp.dA 2) ["term", "known", "row", "inner", "part", "reach"] (Ds.h3 rfl);have G4d:=Ds.mS E 4 5 rfl Ds.o0 G4c (Dp.dA 3) ["term", "known", "row", "inner", "part", "reach"] (Ds.h3 rfl);have G4e:=Ds.mS E 4 6 rfl Ds.o0 G4d (Dp.dA 4) ["term", "known", "row", "inner", "part", "reach"] (Ds.h3 rfl);have G4f:=Ds.mS E 4 7 rfl Ds.o0 G4e (Dp.dA 5) ["term", "known", "row", "inner", "part", "reach"] (Ds.h3 rfl);have G21:=Ds.kA E 21 7 rfl Ds.o0 G4f Dp.eX (Ds.h3 rfl);have C5:=Ds.Dw E 5 8 rfl ([(62,[1]),(1000058,[1]),(3000060,[]),(3000061,[])],[56],[1]) G21 Dp.fU (Ds.h1 rfl);have G5:=Ds.kA E 5 8 rfl ([(62,[1]),(1000058,[1]),(3000060,[]),(3000061,[])],[56],[1]) G21 Dp.gm (Ds.h1 rfl);have V15:=Ds.zP E 15 3 rfl G5 Dp.pF (Ds.h4 rfl);have G15a:=Ds.kA E 15 3 rfl Ds.o0 V15 (Dp.dL 0) (Ds.h4 rfl);have G15b:=Ds.kA E 15 4 rfl Ds.o0 G15a (Dp.dL 1) (Ds.h4 rfl);have G15c:=Ds.kA E 15 5 rfl Ds.o0 G15b (Dp.dL 2) (Ds.h4 rfl);have G15d:=Ds.kA E 15 6 rfl Ds.o0 G15c (Dp.dL 3) (Ds.h4 rfl);have G15e:=Ds.kA E 15 7 rfl Ds.o0 G15d (Dp.dL 4) (Ds.h4 rfl);have G15f:=Ds.kA E 15 8 rfl Ds.o0 G15e (Dp.dL 5) (Ds.h4 rfl);have G22:=Ds.kA E 22 9 rfl ([(207,[5]),(1000202,[3,4]),(3000205,[]),(3000206,[])],[197,198,199],[3,4,5]) G15f Dp.eO (Ds.h2 rfl);have G23:=Ds.Dv E 23 9 rfl ([(216,[1]),(1000213,[1,4]),(3000211,[]),(3000215,[])],[209,212],[1,4]) G22 C5 Dp.fg (Ds.h1 rfl);exact Ds.yV (n:=40) (k:=10) (gc:=[("MOST_REACH",(.int 24))]) (fz:=[]) (own:=[]) (mu:=[]) F B iN gf G23 E.c rfl (by decide) (by first|exact Or.inl rfl|exact Or.inr rfl) (by first|exact Or.inl rfl|exact Or.inr rfl) rfl (by kernel_rfl) Dp.rZ
theorem walk{l:PySem.W.OpenLaw}{q:Program}{loose:List Str}{XP:(Str->Option Value)->Heap->Prop}{YP:World->Heap->Prop}{d:DefRec}{K:Params->Frag}(hn:l.most=some 63)(hdf:d.params.defaults=[])
  (hY:∀(w:World) (h:Heap),YP w h->(K w.params).In h)
  (F:∀(w:World) (mg:Str->Option Value) (fa:Addr) (h:Heap),(K w.params).In h->h.Ns mainGlobals mg->mg d.name=some (.ref fa) ->
   ∃ fd:FuncData,(∀(s:Shared) (u:Value),BindsTo s fd ⟨[u],[]⟩ [("_law_script",u)])/\∀ base:Heap,(K w.params).In base->base.Ns mainGlobals mg->FnOk l.prog w (K w.params) mg base om 11 fa fd ["_law_script"] (Dp.oE (K w.params))) (hi:PyProof.Rows.importsNone q=true) (ht:l.prog.given.tree=none) :
  PySem.W.WalkO q loose XP YP l.row.toRowW d [] (fun f vs=>PySem.call f vs) :=
 L2.vE (n:=63) (k:=11) (x := "_law_script") (CX:=fun _=>om) (sp:=fun w=>Dp.oE (K w.params)) hn (by decide) hdf ⟨rfl,by decide,by decide⟩ hY F (fun _ _ a ns hl _ hS=>⟨a,ns,rfl,hS,hl,fun _=>rfl⟩) (fun _ _ _ _ _ z=>z) hi ht
end My
def PySem.W.Fast.tw11248852879497144051:Unit:=()
def PySem.W.Fast.tw9229882047327933011:Unit:=()
def PySem.W.Fast.tw1610392157131925103:Unit:=()
def PySem.W.Fast.tw18226427465296132439:Unit:=()
def PySem.W.Fast.tw11703612879442429573:Unit:=()
def PySem.W.Fast.tw2703839071326900228:Unit:=()
def PySem.W.Fast.tw7810843306054391186:Unit:=()
def PySem.W.Fast.tw17176239715964947986:Unit:=()
def PySem.W.Fast.tw17669306243275392224:Unit:=()
def PySem.W.Fast.tw10829234294653737698:Unit:=()
def PySem.W.Fast.tw4606912353573179406:Unit:=()
def PySem.W.Fast.tw12078904806015971688:Unit:=()
def PySem.W.Fast.tw7044189422520397058:Unit:=()
def PySem.W.Fast.tw3663920177259904756:Unit:=()
def PySem.W.Fast.tw11962402561022401502:Unit:=()
def PySem.W.Fast.tw16220069964402859811:Unit:=()
def PySem.W.Fast.tw14619043220798658081:Unit:=()
def PySem.W.Fast.tw119246618724284883:Unit:=()
def PySem.W.Fast.tw15762137095136593819:Unit:=()
def PySem.W.Fast.tw158186221255117385:Unit:=()
def PySem.W.Fast.tw18217264006018960385:Unit:=()
def PySem.W.Fast.tw9625353033161246868:Unit:=()
def PySem.W.Fast.tw8682407452749319119:Unit:=()
def PySem.W.Fast.tw431282777209813813:Unit:=()
def PySem.W.Fast.tw13870406866981881214:Unit:=()
def PySem.W.Fast.tw10873627465989814471:Unit:=()
def PySem.W.Fast.tw17283997442686915669:Unit:=()
def PySem.W.Fast.tw393400685884895280:Unit:=()
def PySem.W.Fast.tw918953321504549471:Unit:=()
def PySem.W.Fast.tw7406418243451176159:Unit:=()
def PySem.W.Fast.tw11879152603535294983:Unit:=()
def PySem.W.Fast.tw16429405453256951865:Unit:=()
def PySem.W.Fast.tw15203334446395611004:Unit:=()
def PySem.W.Fast.tw10278368676158011364:Unit:=()
def PySem.W.Fast.tw2818494760320614933:Unit:=()
def PySem.W.Fast.tw940641105645900354:Unit:=()
def PySem.W.Fast.tw9878738846600118660:Unit:=()
def PySem.W.Fast.tw13966754595879111322:Unit:=()
def PySem.W.Fast.tw13625451144306715242:Unit:=()
def PySem.W.Fast.tw3953807563927065331:Unit:=()
def PySem.W.Fast.tw2996722679542734406:Unit:=()
open PySem PySem.W PyProof.Rows
set_option maxRecDepth 100000 in
set_option maxHeartbeats 0 in
theorem PySem.Challenge.cw_nestwright_k16_reaches_told_holds : PySem.Challenge.rw_nestwright_k16_reaches_told.Holds := by
 w_on;o_law;k_head;(case hw=>w_witness2)
 k_fill
 refine My.walk (l:=PySem.Challenge.rw_nestwright_k16_reaches_told) rfl rfl (fun w h Y=>PySem.W.kIn_of Y) ?F ?hi rfl
 (case hi=>kernel_rfl)
 case F =>
  intro w mg fa h KX G hmg;refine' My.zH KX G hmg ?S ?Z ?zMOST_REACH;case S =>
   iterate 25
    refine' Ds.SlS.c ?_ ?_ ?_ ?_ ?_;any_goals k_is
   exact trivial
  case Z =>
   iterate 19
    refine' Ds.ZsO.c ?_ ?_
    k_is
   exact trivial
  (case zMOST_REACH=>k_is)
