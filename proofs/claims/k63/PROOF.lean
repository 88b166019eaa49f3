import PyProof.Rows.All
import Wide.All
import OpenK.AllK
import Wide.FinOn
import Lean
import PyProof.EqAt
import PyProof.EqKinds
import PyProof.TupleCall
import PySem.Challenge.RW_nestwright_k63_whole_again_and_again
open PySem.W (Frag)
open Array renaming length_toList → dr
open Bool renaming and_eq_true_iff → ay, false_ne_true → aF, and_eq_true → bN, false_eq_true → cK, eq_iff_iff → cN, not_eq_true' → dX, or_eq_true_iff → ia
open Int renaming mul_pos → az, ne_of_gt → aA, pow_succ → aI, eq_of_mul_eq_mul_right → aJ, zero_mul → aL, natAbs_mul → aR, toNat_natCast → aS, pow_zero → aT, natAbs_dvd_natAbs → bc, mul_one → bh, natAbs_natCast → bj, mul_comm → bt, mul_zero → bw, pow_pos → bS, mul_ne_zero → bT, one_mul → bV, mul_assoc → bY, fdiv_eq_ediv_of_nonneg → ce, add_zero → cq, mul_eq_zero → cy, natAbs_pow → cE, pow_ne_zero → cH, zero_add → cJ, natCast_pow → cP, pow_add → cQ, mul_fdiv_cancel_left → cT, one_pow → cY, fmod_eq_emod_of_nonneg → dh, le_refl → dE, eq_ofNat_of_zero_le → dF, mul_nonneg → dG, le_ediv_iff_mul_le → dH, dvd_mul_right → dI, mul_fdiv_cancel → dN, natAbs_neg → dQ, lt_or_gt_of_ne → dR, emod_lt_of_pos → dS, mul_neg_of_pos_of_neg → dW, lt_trichotomy → eF, dvd_trans → eK, dvd_mul_of_dvd_left → eV, emod_nonneg → e9, dvd_add → fi, add_mul → fj, lt_or_le → gq, dvd_refl → gr, mul_le_mul_of_nonneg_right → gx, neg_mul_neg → gC, mul_dvd_mul → gD, eq_of_mul_eq_mul_left → gM, le_of_dvd → gN, dvd_mul_of_dvd_right → gO, le_of_lt → gV, fmod_nonneg_of_pos → gX, fmod_def → gY, dvd_zero → gZ, mul_pow → hX, gcd_eq_zero_iff → iu, sub_add_cancel → iz, lt_or_eq_of_le → iA, fmod_lt_of_pos → iB, gcd_dvd_right → iG
open List renaming length_map → aa, getD_eq_getElem?_getD → ac, size_toArray → ai, getElem?_eq_some_iff → aj, getElem?_eq_getElem → aq, mem_cons_self → ar, mem_cons → au, mem_singleton → av, mem_cons_of_mem → aw, length_append → aD, getElem?_set_ne → aK, mem_of_getElem? → aM, getElem?_set → aN, getElem?_map → aO, not_mem_nil → aP, mem_append_right → aX, length_take → bf, length_cons → bg, getElem?_append_right → bq, getElem?_eq_none → br, length_set → bu, length_replicate → bv, getElem?_append_left → bx, replicate_succ → bB, map_append → bD, take_length → bM, length_reverse → bO, mem_iff_getElem? → bP, getElem?_reverse → bX, mem_filter → cr, mem_append → cu, all_eq_true → cB, flatten_cons → cF, getD_cons_succ → cI, append_nil → cL, length_eq_zero_iff → cU, eq_nil_of_length_eq_zero → cX, pairwise_iff_getElem → dm, drop_eq_getElem_cons → dq, length_pos_iff → du, filterMap_cons → dw, length_dropLast → dJ, mem_map → dM, pairwise_cons → dP, reverse_cons → dU, map_cons → eh, getElem?_take_of_lt → ez, eq_of_mem_replicate → eE, pairwise_singleton → eN, lookup_cons → eO, getElem_mem → eQ, getElem?_replicate → eU, getElem?_set_self → eX, nodup_cons → eY, dropLast_eq_take → e7, take_zero → fc, mem_range → ff, getD_cons_zero → fk, all_cons → ft, getElem?_take → fB, take_add_one → fJ, map_map → fQ, length_range → fU, all_map → fY, isEmpty_iff → gv, any_eq_true → gw, of_mem_zip → gA, drop_zero → gF, getElem?_eq_none_iff → gJ, any_cons → gL, drop_of_length_le → gP, length_singleton → gU, mem_append_left → g6, getElem?_range → hV, pairwise_pair → ip, mem_filterMap → iq, filterMap_nil → ir, foldl_append → iy, map_reverse → iE, length_drop → iF
open Nat renaming mul_le_mul_left → ak, le_refl → am, lt_or_ge → ao, zero_le → aC, lt_of_lt_of_le → aE, le_trans → aH, le_mul_of_pos_left → aQ, ne_of_lt → aU, succ_mul → bo, pow_pos → bA, pow_le_pow_right → bE, mul_le_mul_right → bI, mul_succ → bJ, add_sub_cancel → bK, mul_comm → bQ, sub_zero → bZ, lt_of_le_of_lt → b8, le_mul_of_pos_right → b9, lt_irrefl → ca, mul_le_mul → cb, eq_or_lt_of_le → cC, sub_self → cD, not_lt_zero → cO, le_of_dvd → cR, pow_succ → cZ, lt_succ_of_lt → df, le_of_succ_le → dg, dvd_mul_left → dj, eq_zero_or_pos → dA, div_le_self → dL, mul_lt_mul_of_pos_right → dO, pow_add → dY, mul_one → dZ, le_succ → d9, mul_assoc → eI, add_assoc → eJ, one_mul → fh, dvd_trans → fv, pos_of_ne_zero → fI, succ_pos → ga, ne_of_gt → gb, mul_zero → gg, le_of_lt_succ → gh, le_of_lt → gk, gcd_dvd_right → gm, add_mul → gz, mul_lt_mul_of_pos_left → gG, mul_div_le → gH, mod_two_eq_zero_or_one → gI, eq_of_mul_eq_mul_left → gK, zero_mul → gQ, zero_add → gR, gcd_comm → gS, add_zero → gT, mul_pos → g9, add_le_add_right → hJ, pow_lt_pow_left → ig, pow_le_pow_left → ii, lt_mul_div_succ → io, succ_min_succ → iC, lt_trichotomy → iD
open Option renaming map_eq_some_iff → ab, ite_none_right_eq_some → ae, bind_eq_some_iff → af, ite_none_left_eq_some → gu, getD_none → ic
open Rat renaming intCast_mul → aB, pow_succ → aY, pow_zero → bC, mul_eq_zero → cw, natCast_eq_zero_iff → cV, intCast_pow → dc, intCast_inj → de, intCast_eq_zero_iff → dD, intCast_pos → eZ, intCast_add → e6, num_divInt_den → fE, divInt_eq_div → fZ, mul_pos → gy, intCast_neg → gB, mul_lt_mul_of_pos_right → gE, mul_one → g7, lt_of_le_of_ne → ix
set_option Elab.async false
set_option linter.all false
set_option maxRecDepth 100000
set_option genSizeOf false
set_option bootstrap.genMatcherCode false
local macro_rules | `(tactic| omega) => `(tactic| lia)
namespace L2
open PySem PySem.Spec PyProof.Rows
abbrev AZ:=Sum Int Str
def HS:AZ->Value->Bool
 | .inl k,v=>Value.isInt k v
 | .inr x,v=>Value.isStrOf x v
def Ms (w:World):AZ->Int
 | .inl k=>hashInt k
 | .inr x=>hashStr w x
theorem tw:∀ {k:AZ} {v:Value},HS k v=true->(∃ i t,k=Sum.inl i/\v=Value.int i t)\/(∃ x t,k=Sum.inr x/\v=Value.str x t)
 | .inl i,v,h=>by
  obtain ⟨t,e⟩:=Value.isInt_shape (k:=i) (v:=v) h;exact .inl ⟨i,t,rfl,e⟩
 | .inr x,v,h=>by
  obtain ⟨t,e⟩:=Value.isStrOf_shape (x:=x) (v:=v) h;exact .inr ⟨x,t,rfl,e⟩
theorem JD (a b:Int):decide ((Sum.inl a:AZ)=Sum.inl b)=(a == b):=by
 by_cases e:a=b
 ·subst e;simp
 ·have h:¬ (Sum.inl a:AZ)=Sum.inl b:=fun q=>e (Sum.inl.inj q);rw [decide_eq_false h];exact (beq_eq_false_iff_ne.mpr e).symm
theorem JA (a b:Str):decide ((Sum.inr a:AZ)=Sum.inr b)=decide (a=b):=by
 by_cases e:a=b
 ·subst e;simp
 ·have h:¬ (Sum.inr a:AZ)=Sum.inr b:=fun q=>e (Sum.inr.inj q);rw [decide_eq_false h,decide_eq_false e]
theorem JC (a:Int)(b:Str):decide ((Sum.inl a:AZ)=Sum.inr b)=false:=decide_eq_false (fun q=>nomatch q)
theorem JB (a:Str)(b:Int):decide ((Sum.inr a:AZ)=Sum.inl b)=false:=decide_eq_false (fun q=>nomatch q)
def y6 (prog:Program)(w:World):PySem.KeyKind prog w AZ where
 is:=HS
 hash:=Ms w
 inj:=fun v a b ha hb=>by
  rcases tw ha with ⟨i,t,rfl,rfl⟩ | ⟨x,t,rfl,rfl⟩
  ·rcases tw hb with ⟨j,u,rfl,e⟩ | ⟨y,u,rfl,e⟩
   ·injection e with e1 _;rw [e1]
   ·exact nomatch e
  ·rcases tw hb with ⟨j,u,rfl,e⟩ | ⟨y,u,rfl,e⟩
   ·exact nomatch e
   ·injection e with e1 _;rw [e1]
 byValue:=fun k v h=>by
  rcases tw h with ⟨i,t,rfl,rfl⟩ | ⟨x,t,rfl,rfl⟩ <;> rfl
 pyHash:=fun hv h=>by
  rcases tw hv with ⟨i,t,rfl,rfl⟩ | ⟨x,t,rfl,rfl⟩
  ·exact wpAny_pyHash_int h
  ·exact wpAny_pyHash_str h
 eqBool:=fun hu hv h=>by
  rcases tw hu with ⟨i,t,rfl,rfl⟩ | ⟨x,t,rfl,rfl⟩
  ·rcases tw hv with ⟨j,u,rfl,rfl⟩ | ⟨y,u,rfl,rfl⟩
   ·rw [JD] at h;exact wpAny_eqBool_int h
   ·rw [JC] at h;exact SeqAt.EqAt.int_str i t y u _ _ _ _ h
  ·rcases tw hv with ⟨j,u,rfl,rfl⟩ | ⟨y,u,rfl,rfl⟩
   ·rw [JB] at h;exact SeqAt.EqAt.str_int x t j u _ _ _ _ h
   ·rw [JA] at h;exact wpAny_eqBool_str h
 «strs» := fun k x t v h=>by
  rcases tw h with ⟨i,u,rfl,e⟩ | ⟨y,u,rfl,e⟩
  ·exact nomatch e
  ·injection e with e1 _;subst e1;cases v <;> rfl
end L2
namespace L2
open PySem PySem.Spec PyProof.Rows
inductive V where
 | non | bl (b:Bool) | int (i:Int) | str (x:Str) | byt (b:Array UInt8) | flt (b:UInt64) | ref (a:Addr) | ty (n:String)
 deriving DecidableEq
def RelV:V->Value->Prop
 | .non,u=>u=Value.none
 | .bl b,u=>u=Value.bool b
 | .int i,u=>∃ t,u=Value.int i t
 | .str x,u=>∃ t,u=Value.str x t
 | .byt b,u=>∃ t,u=Value.bytes b t
 | .flt b,u=>∃ t,u=Value.float b t
 | .ref a,u=>u=Value.ref a
 | .ty n,u=>u=Value.type n
abbrev Vals:List V->List Value->Prop:=Paired RelV
theorem Vals.length {xs:List V}{us:List Value}(r:Vals xs us):xs.length=us.length:=Paired.length r
theorem Vals.get:∀ {xs:List V} {us:List Value} {i:Nat} {x:V},Vals xs us->xs[i]? = some x->∃ u,us[i]? = some u/\RelV x u
 | _,_,_,_,.nil,e=>by simp at e
 | _,_,0,_,.cons r _,e=>by simp at e;subst e;exact ⟨_,rfl,r⟩
 | _,_,i+1,x,.cons _ t,e=>by
  obtain ⟨u,h1,h2⟩:=Vals.get (i:=i) (x:=x) t (by simpa using e);exact ⟨u,by simpa using h1,h2⟩
theorem Vals.set {x:V}{u:Value}(r:RelV x u):∀ {xs:List V} {us:List Value} (i:Nat),Vals xs us->Vals (xs.set i x) (us.set i u)
 | _,_,_,.nil=>.nil
 | _,_,0,.cons _ t=>.cons r t
 | _,_,i+1,.cons q t=>.cons q (Vals.set r i t)
theorem Vals.append:∀ {xs ys:List V} {us ws:List Value},Vals xs us->Vals ys ws->Vals (xs++ys) (us++ws)
 | _,_,_,_,.nil,s=>s
 | _,_,_,_,.cons r t,s=>.cons r (Vals.append t s)
theorem Vals.take:∀ {xs:List V} {us:List Value} (n:Nat),Vals xs us->Vals (xs.take n) (us.take n)
 | _,_,0,_=>.nil
 | _,_,_+1,.nil=>.nil
 | _,_,n+1,.cons r t=>.cons r (Vals.take n t)
theorem Vals.drop:∀ {xs:List V} {us:List Value} (n:Nat),Vals xs us->Vals (xs.drop n) (us.drop n)
 | _,_,0,r=>r
 | _,_,_+1,.nil=>.nil
 | _,_,n+1,.cons _ t=>Vals.drop n t
def Ls:Option V->Option Value->Prop
 | some v,some u=>RelV v u
 | none,none=>True
 | _,_=>False
def KV {κ:Type}:List (κ×V)->List (κ×Value)->Prop:=Paired fun (p:κ×V) (q:κ×Value)=>p.1=q.1/\RelV p.2 q.2
def kV:AZ->V
 | .inl i=>.int i
 | .inr x=>.str x
inductive HO where
  | lst (xs:List V)
  | tup (xs:List V)
  | dK (kvs:List (AZ×V)) | dT (kvs:List (List AZ×V))
  | set (S:Int->Bool) (n:Nat)
  | ins (C dx:Addr) (fs:List (Str×V))
  | own (x:Addr)
  | xd (fs:List (Str×V))
  | met (f x:Addr)
  | rng (lo hi:Int)
  | frz (o:Obj) (u:HO)
  | tbl (ps:Array Value)
  | ext (φ:Heap->Prop)
abbrev Hp:=Addr->Option HO
def tN (H:Hp)(a:Addr)(o:HO):Hp:=fun b=>if b=a then some o else H b
theorem s9 {H:Hp}{a:Addr}{o:HO}:tN H a o a=some o:=by unfold tN;rw [if_pos rfl]
theorem sV {H:Hp}{a b:Addr}{o:HO}(h:b≠a):tN H a o b=H b:=by unfold tN;rw [if_neg h]
theorem KY {H:Hp}{a b:Addr}{o u:HO}(h:H a=some o)(h':H b=some u)(d:o≠u):a≠b:=by
 intro e;subst e;rw [h] at h';exact d (Option.some.inj h')
theorem sY {H:Hp}{a b:Addr}{o:HO}(h:H a=some o)(h':H b=none):a≠b:=by
 intro e;subst e;rw [h] at h';cases h'
section
variable (P:Program)(w:World)
def ObjOk (H:Hp)(h:Heap)(a:Addr):HO->Prop
 | .lst xs=>xs.length<=sizeLine/\∃ (its:List Value) (n:Nat),Vals xs its/\h.get? a=some { cls:=.type "list",data:=.seq its.toArray n }
 | .tup xs=>xs.length<=sizeLine/\∃ its:List Value,Vals xs its/\IsTup h a its.toArray
 | .dK kvs=>kvs.length<=sizeLine/\(a == sysModules)=false/\∃ vs,KV kvs vs/\h.DictOf (y6 P w) a vs
 | .dT kvs=>kvs.length<=sizeLine/\(a == sysModules)=false/\∃ xs:List (List AZ×Addr×Value),
   Paired (fun (p:List AZ×V) (q:List AZ×Addr×Value)=>p.1=q.1/\H q.2.1=some (.tup (p.1.map kV))/\RelV p.2 q.2.2) kvs xs /\
   ∃ o es ep,h.get? a=some o/\o.ExactDict/\o.data = .dict es ep/\es.toList=xs.map (entryOfKey (tupleKind (y6 P w)))/\(xs.map (·.1)).Nodup
 | .set S n=>h.SetOf (intKind P w) a S n
 | .ins C dx fs=>H dx=some (.own a)/\fs.length<=1000/\dx≠a/\h.get? a=some (PySem.W.instObj C dx) /\
   ∃ mA,h.Ns1 dx mA/\(∀ f,Ls (fs.lookup f) (mA f))/\PySem.Within mA (fs.map (·.1))
 | .own _=>∃ o,h.get? a=some o
 | .xd fs=>∃ mA,h.Ns1 a mA/\∀ f,Ls (fs.lookup f) (mA f)
 | .rng lo hi=>∃ t u v,h.get? a=some { cls:=.type "range",data:=.fields #[.int lo t,.int hi u,.int 1 v] }
 | .frz o u=>h.get? a=some o/\ObjOk H h a u
 | .tbl ps=>h.get? a=some { cls:=.none,data:=.fields ps }
 | .met f x=>h.get? a=some (PySem.W.methodObj (.ref f) (.ref x))
 | .ext φ=>φ h/\(∃ o,h.get? a=some o)/\∀ h1 h2:Heap,φ h1->(∀ o,h1.get? a=some o->h2.get? a=some o)->φ h2
def HOk (H:Hp)(h:Heap):Prop:=∀ a o,H a=some o->ObjOk P w H h a o
end
section
variable {P:Program}{w:World}{H H':Hp}{h h':Heap}{a:Addr}{o:HO}
theorem ObjOk.lt (x:ObjOk P w H h a o):a<h.objs.size:=by
 cases o with
 | lst xs=>obtain ⟨_,_,_,_,e⟩:=x;exact Heap.lt_size e
 | tup xs=>obtain ⟨_,_,_,p⟩:=x;exact p.lt
 | dK kvs=>obtain ⟨_,_,_,_,o,_,_,e,_⟩:=x;exact Heap.lt_size e
 | dT kvs=>obtain ⟨_,_,_,_,o,_,_,e,_⟩:=x;exact Heap.lt_size e
 | set S n=>obtain ⟨o,_,_,_,e,_⟩:=x;exact Heap.lt_size e
 | ins C dx fs=>obtain ⟨_,_,_,e,_⟩:=x;exact Heap.lt_size e
 | own y=>obtain ⟨_,e⟩:=x;exact Heap.lt_size e
 | xd fs=>obtain ⟨_,⟨_,_,_,e,_⟩,_⟩:=x;exact Heap.lt_size e
 | rng lo hi=>obtain ⟨_,_,_,e⟩:=x;exact Heap.lt_size e
 | frz ob u=>obtain ⟨e,_⟩:=x;exact Heap.lt_size e
 | tbl ps=>exact Heap.lt_size (show h.get? a=some _ from x)
 | met f y=>exact Heap.lt_size (show h.get? a=some _ from x)
 | ext φ=>obtain ⟨_,⟨_,e⟩,_⟩:=x;exact Heap.lt_size e
theorem Paired.mapP {α β:Type}{F G:α->β->Prop}:∀ {l₁:List α} {l₂:List β},Paired F l₁ l₂->(∀ a b,F a b->G a b)->Paired G l₁ l₂
 | _,_,.nil,_=>.nil
 | _,_,.cons r t,f=>.cons (f _ _ r) (Paired.mapP t f)
theorem ObjOk.stay (x:ObjOk P w H h a o)(k:∀ b u,(b=a\/H b=some (.own a))->h.get? b=some u->h'.get? b=some u)
  (ho:∀ b,H b=some (.own a)->H' b=some (.own a)) (ht:∀ b xs,H b=some (.tup xs)->H' b=some (.tup xs)):ObjOk P w H' h' a o:=by
 induction o with
 | lst xs=>obtain ⟨z,its,n,r,e⟩:=x;exact ⟨z,its,n,r,k _ _ (.inl rfl) e⟩
 | tup xs=>obtain ⟨z,its,r,ob,e,c⟩:=x;exact ⟨z,its,r,ob,k _ _ (.inl rfl) e,c⟩
 | dK kvs=>obtain ⟨z,y,vs,r,ob,es,ep,e,c⟩:=x;exact ⟨z,y,vs,r,ob,es,ep,k _ _ (.inl rfl) e,c⟩
 | dT kvs =>
  obtain ⟨z,y,xs,r,ob,es,ep,e,c⟩:=x;exact ⟨z,y,xs,Paired.mapP r fun p q z=>⟨z.1,ht _ _ z.2.1,z.2.2⟩,ob,es,ep,k _ _ (.inl rfl) e,c⟩
 | set S n=>obtain ⟨ob,es,ep,t,e,c⟩:=x;exact ⟨ob,es,ep,t,k _ _ (.inl rfl) e,c⟩
 | ins C dx fs =>
  obtain ⟨d,z,ne,e,mA,⟨od,es,ep,e2,c⟩,r⟩:=x;exact ⟨ho _ d,z,ne,k _ _ (.inl rfl) e,mA,⟨od,es,ep,k _ _ (.inr d) e2,c⟩,r⟩
 | own y=>obtain ⟨ob,e⟩:=x;exact ⟨ob,k _ _ (.inl rfl) e⟩
 | xd fs=>obtain ⟨mA,⟨od,es,ep,e,c⟩,r⟩:=x;exact ⟨mA,⟨od,es,ep,k _ _ (.inl rfl) e,c⟩,r⟩
 | rng lo hi=>obtain ⟨t,u,v,e⟩:=x;exact ⟨t,u,v,k _ _ (.inl rfl) e⟩
 | frz ob u ih=>obtain ⟨e,q⟩:=x;exact ⟨k _ _ (.inl rfl) e,ih q⟩
 | tbl ps =>
  have e:h.get? a=some { cls:=.none,data:=.fields ps }:=x;show h'.get? a=some { cls:=.none,data:=.fields ps };exact k a _ (.inl rfl) e
 | met f y =>
  have e:h.get? a=some (PySem.W.methodObj (.ref f) (.ref y)):=x;show h'.get? a=some (PySem.W.methodObj (.ref f) (.ref y));exact k a _ (.inl rfl) e
 | ext φ=>obtain ⟨p,⟨o,e⟩,st⟩:=x;exact ⟨st _ _ p fun o q=>k _ _ (.inl rfl) q,⟨o,k _ _ (.inl rfl) e⟩,st⟩
theorem HOk.lt (x:HOk P w H h)(e:H a=some o):a<h.objs.size:=(x a o e).lt
theorem HOk.fresh (x:HOk P w H h)(e:h.objs.size<=a):H a=none:=by
 cases q:H a with
 | none=>rfl
 | some u=>exact absurd (aE (x.lt q) e) (ca _)
theorem HOk.kept (x:HOk P w H h)(k:∀ b u,h.get? b=some u->h'.get? b=some u):HOk P w H h':=fun a o e =>
 (x a o e).stay (fun b u _ q=>k b u q) (fun _ q=>q) fun _ _ q=>q
theorem HOk.laid (x:HOk P w H h)(k:∀ b u,h.get? b=some u->h'.get? b=some u)(hp:h.objs.size<=a)(new:ObjOk P w (tN H a o) h' a o):HOk P w (tN H a o) h':=fun b u e=>by
 have hn:=x.fresh hp;by_cases hb:b=a
 ·subst hb;rw [s9] at e;cases e;exact new
 ·rw [sV hb] at e;exact (x b u e).stay (fun c v _ q=>k c v q) (fun c q=>by rw [sV (sY q hn)];exact q) fun c xs q=>by rw [sV (sY q hn)];exact q
end
def Rd (H:Hp)(a:Addr)(u:HO):Prop:=H a=some u\/∃ o,H a=some (.frz o u)
theorem Rd.ok {P:Program}{w:World}{H:Hp}{h:Heap}{a:Addr}{u:HO}(r:Rd H a u)(x:HOk P w H h):ObjOk P w H h a u:=by
 rcases r with r | ⟨o,r⟩
 ·exact x a u r
 ·obtain ⟨_,q⟩:=x a _ r;exact q
def LR:Option HO->Prop
 | some (.lst _)=>True
 | some (.dK _)=>True
 | some (.dT _)=>True
 | some (.set _ _)=>True
 | some (.ins _ _ _)=>True
 | some (.ext _)=>True
 | _=>False
section
variable {P:Program}{w:World}{H:Hp}{h h':Heap}{x e:Addr}{o':HO}
theorem HOk.write (ok:HOk P w H h)(mu:LR (H x))(he:e=x\/H e=some (.own x))(k:∀ b u,b≠e->h.get? b=some u->h'.get? b=some u)(heo:∃ u,h'.get? e=some u)
  (new:ObjOk P w (tN H x o') h' x o'):HOk P w (tN H x o') h':=fun b u q=>by
 have nown:∀ c y,H c=some (.own y)->c≠x:=fun c y r z=>by subst z;rw [r] at mu;exact mu
 have ntup:∀ c xs,H c=some (.tup xs)->c≠x:=fun c xs r z=>by subst z;rw [r] at mu;exact mu
 by_cases hb:b=x
 ·subst hb;rw [s9] at q;cases q;exact new
 ·rw [sV hb] at q;by_cases hbe:b=e
  ·have q':H b=some (.own x):=by
    rcases he with z | z
    ·exact absurd (hbe.trans z) hb
    ·rw [hbe];exact z
   rw [q] at q';cases q';obtain ⟨v,hv⟩:=heo;exact ⟨v,by rw [hbe];exact hv⟩
  ·refine (ok b u q).stay (fun c v hc r=>k c v ?_ r) (fun c r=>by rw [sV (nown c b r)];exact r) fun c xs r=>by rw [sV (ntup c xs r)];exact r
   rcases hc with rfl | hc
   ·exact hbe
   ·rintro rfl;rcases he with z | z
    ·exact nown c b hc z
    ·rw [hc] at z;cases z;exact hb rfl
end
structure Un (fs ex:List Addr)(H H':Hp)(h h':Heap):Prop where
 keep:∀ b o,h.get? b=some o->H b=none->b ∉ fs->b ∉ ex->h'.get? b=some o
 slot:∀ b o,h.get? b=some o->H b=none->b∈fs->b ∉ ex->∃ sl,h'.get? b=some { o with slots:=sl }
 free:∀ b o,h.get? b=some o->H b=none->b ∉ ex->H' b=none
 there:∀ b o,h.get? b=some o->b ∉ ex->∃ o',h'.get? b=some o'
 tups:∀ b xs,H b=some (.tup xs)->H' b=some (.tup xs)
 frzs:∀ b o u,H b=some (.frz o u)->H' b=some (.frz o u)
 tbls:∀ b ps,H b=some (.tbl ps)->∃ more,H' b=some (.tbl (ps++more))
section
variable {fs fs' ex ex':List Addr}{H H1 H2:Hp}{h h1 h2 h':Heap}{a x e:Addr}{o:HO}
theorem Un.any (u:Un fs ex H H1 h h1){b:Addr}{ob:Obj}(q:h.get? b=some ob)(n:H b=none)(hx:b ∉ ex):∃ sl,h1.get? b=some { ob with slots:=sl }:=by
 by_cases hb:b∈fs
 ·exact u.slot b ob q n hb hx
 ·exact ⟨ob.slots,u.keep b ob q n hb hx⟩
theorem Un.kept (k:∀ b u,h.get? b=some u->h'.get? b=some u):Un fs ex H H h h' :=
 ⟨fun b ob q _ _ _=>k b ob q,fun b ob q _ _ _=>⟨ob.slots,k b ob q⟩,fun _ _ _ n _=>n,fun b ob q _=>⟨ob,k b ob q⟩,fun _ _ q=>q,fun _ _ _ q=>q,fun _ ps q=>⟨#[],by rw [q];simp⟩⟩
theorem Un.refl:Un fs ex H H h h:=Un.kept fun _ _ q=>q
theorem Un.laid (k:∀ b u,h.get? b=some u->h'.get? b=some u)(hp:h.objs.size<=a)(hn:H a=none):Un fs ex H (tN H a o) h h' where
 keep:=fun b u q _ _ _=>k b u q
 slot:=fun b u q _ _ _=>⟨u.slots,k b u q⟩
 free:=fun b u q n _=>by rw [sV (aU (aE (Heap.lt_size q) hp))];exact n
 there:=fun b u q _=>⟨u,k b u q⟩
 tups:=fun b xs q=>by rw [sV (sY q hn)];exact q
 frzs:=fun b u xs q=>by rw [sV (sY q hn)];exact q
 tbls:=fun b ps q=>⟨#[],by rw [sV (sY q hn),q];simp⟩
theorem Un.write (mu:LR (H x))(he:e=x\/H e=some (.own x))(k:∀ b u,b≠e->h.get? b=some u->h'.get? b=some u)(heo:∃ u,h'.get? e=some u):Un fs ex H (tN H x o) h h':=by
 have hx:∀ b,H b=none->b≠x:=fun b n z=>by subst z;rw [n] at mu;exact mu
 have hb:∀ b,H b=none->b≠e:=fun b n z=>by
  subst z;rcases he with r | r
  ·exact hx b n r
  ·rw [n] at r;cases r
 have hm:∀ b u,H b=some u->¬ LR (some u)->b≠x:=fun b u q nm z=>by subst z;rw [q] at mu;exact nm mu
 refine ⟨fun b u q n _ _=>k b u (hb b n) q,fun b u q n _ _=>⟨u.slots,k b u (hb b n) q⟩,fun b u q n _=>by rw [sV (hx b n)];exact n,fun b u q _=>?_,
  fun b xs q=>by rw [sV (hm b _ q fun z=>z)];exact q,fun b u xs q=>by rw [sV (hm b _ q fun z=>z)];exact q,fun b ps q=>⟨#[],by rw [sV (hm b _ q fun z=>z),q];simp⟩⟩
 by_cases hbe:b=e
 ·subst hbe;exact heo
 ·exact ⟨u,k b u hbe q⟩
end
def LC (h:Heap)(H:Hp):List Addr:=(List.range h.objs.size).filter fun a=>(H a).isSome
def x8 (h:Heap)(H:Hp):Heap:=PySem.W.hideAll h (LC h H)
theorem Dw (h:Heap)(H:Hp):(x8 h H).objs.size=h.objs.size:=PySem.W.hideAll_size _ _
theorem E5 {h:Heap}{H:Hp}{b:Addr}{o:Obj}(e:h.get? b=some o)(n:H b=none):(x8 h H).get? b=some o :=
 PySem.W.hideAll_get _ e fun hm=>by
  have q:(H b).isSome=true:=(cr.mp hm).2;rw [n] at q;simp at q
theorem Gw {h:Heap}{H:Hp}{b:Addr}{o:Obj}(e:(x8 h H).get? b=some o):h.get? b=some o/\H b=none:=by
 have e':h.get? b=some o:=PySem.W.of_hideAll (LC h H) e;refine ⟨e',?_⟩;cases q:H b with
 | none=>rfl
 | some x =>
  have hm:b∈LC h H:=cr.mpr ⟨ff.mpr (Heap.lt_size e'),by simp [q]⟩;have z:(x8 h H).get? b=none:=PySem.W.hideAll_none (LC h H) hm;rw [z] at e;cases e
end L2
namespace L2
open PySem PySem.Spec PyProof.Rows
structure Mod (K:Frag)(mg:Str->Option Value)(base:Heap):Prop where
 kin:K.In base
 glob:base.Ns mainGlobals mg
 blt:∃ mb,base.Ns builtinsNs mb/\∀ x:Str,x ≠ "__name__" -> mb x=bootBuiltins x
 nolimit:base.NoLimit
structure Cx where
 prog:Program
 w:World
 K:Frag
 mg:Str->Option Value
 base:Heap
 A:Around
 N:List Str
 s₀:Shared
 H₀:Hp
 env:Env
 outer:List Env
 stack:List Env
 ex:List Addr
 fn:Str->Bool
 calm:Bool
 pn:List (Addr×Obj)
 xe:Value->Shared->Prop
def CJ (l:List Env):List Addr:=l.filterMap (·.frame)
abbrev Cx.fs (X:Cx):List Addr:=CJ X.outer
def Io (sc:Scope)(x:Str):Prop:=sc.names.lookup x=some .local\/sc.names.lookup x=some .cell\/sc.names.lookup x=some .free
def DH (sc:Scope)(x:Str):Prop:=sc.names.lookup x=some .local\/sc.names.lookup x=some .cell
def MO (env:Env)(h:Heap)(m:Str->Option Value)(x:Str)(u:Value):Prop :=
 (env.kindOf x=some .local/\m x=some u)\/((env.kindOf x=some .cell\/env.kindOf x=some .free)/\∃ c,env.cells.lookup x=some c/\h.IsCell c (some u))
structure Cx.Ok (X:Cx):Prop where
 mod:Mod X.K X.mg X.base
 kind:X.env.scope.kind = .function
 glob:X.env.globals=mainGlobals
 blt:X.env.builtins=builtinsNs
 above:X.s₀.heap.objs.size<=X.env.locals
 inj:∀ x y c,X.env.cells.lookup x=some c->X.env.cells.lookup y=some c->x=y
 has:∀ x,(X.env.kindOf x=some .cell\/X.env.kindOf x=some .free)->∃ c,X.env.cells.lookup x=some c
 cab:∀ x c,X.fn x=true->X.env.cells.lookup x=some c->X.s₀.heap.objs.size<=c
 hd:X.calm=true->X.A.handled=none
 frames:X.A.frames=some X.stack
 stk:X.stack=X.outer\/(X.stack=X.env::X.outer/\X.env.frame=some X.env.locals)
 exf:∀ b∈X.ex,b≠X.env.locals/\∀ x c,X.env.cells.lookup x=some c->c≠b
 bs:∀ b o,X.base.get? b=some o->X.s₀.heap.get? b=some o/\X.H₀ b=none
 bsz:X.base.objs.size<=X.s₀.heap.objs.size
 noex:∀ b o,X.base.get? b=some o->b ∉ X.ex
 exfs:∀ b∈X.ex,b ∉ X.fs
 funs:X.s₀.heap.FunFrames X.base X.outer
 frf:∀ b∈X.fs,X.H₀ b=none
 sr:X.base.NoSeer/\X.prog.given.tree=none
 rn:∃ e l,X.stack=e::l/\e.scope.isGenerator=false/\e.scope.isCoroutine=false/\e.builtins=builtinsNs/\e.globals=mainGlobals
structure Inv (X:Cx)(pins:List (Addr×Obj))(σ:List (Option V))(H:Hp)(s:Shared):Prop where
 ok:X.Ok
 os:s.os=X.s₀.os
 bare:AllBare s.gens
 base:Un X.fs X.ex X.H₀ H X.s₀.heap s.heap
 loc:∃ m,s.heap.Ns X.env.locals m/\∀ (i:Nat) (x:Str) (v:V),X.N[i]? = some x->σ[i]? = some (some v)->Io X.env.scope x->∃ u,RelV v u/\MO X.env s.heap m x u
 cell:∀ x c,X.env.cells.lookup x=some c->∃ v,s.heap.IsCell c v
 free:H X.env.locals=none
 freeC:∀ x c,X.env.cells.lookup x=some c->H c=none
 pin:∀ p∈X.pn++pins,s.heap.get? p.1=some p.2/\H p.1=none/\p.1≠X.env.locals/\p.1 ∉ X.fs/\∀ v,p.2.data ≠ .cell v
 hok:HOk X.prog X.w H s.heap
 len:σ.length=X.N.length
section
variable {X:Cx}{pins:List (Addr×Obj)}{σ:List (Option V)}{H H':Hp}{s:Shared}{h':Heap}
theorem Cx.Ok.nofr (ok:X.Ok){b:Addr}{o:Obj}(e:X.base.get? b=some o):b ∉ X.fs:=fun hb=>by
 have:=(ok.funs.mem hb).1;rw [e] at this;cases this
theorem Inv.bs (I:Inv X pins σ H s):∀ b o,X.base.get? b=some o->s.heap.get? b=some o/\H b=none:=fun b o e =>
 ⟨I.base.keep b o (I.ok.bs b o e).1 (I.ok.bs b o e).2 (I.ok.nofr e) (I.ok.noex b o e),I.base.free b o (I.ok.bs b o e).1 (I.ok.bs b o e).2 (I.ok.noex b o e)⟩
theorem Inv.bk (I:Inv X pins σ H s):∀ b o,X.base.get? b=some o->s.heap.get? b=some o:=fun b o e=>(I.bs b o e).1
theorem Inv.mod (I:Inv X pins σ H s):Mod X.K X.mg X.base:=I.ok.mod
theorem Inv.kIn (I:Inv X pins σ H s):X.K.In s.heap:=I.ok.mod.kin.keeps I.bk
theorem Inv.nolimit (I:Inv X pins σ H s):s.heap.NoLimit:=I.ok.mod.nolimit.keeps I.bk
theorem Inv.lt (I:Inv X pins σ H s):X.env.locals<s.heap.objs.size:=let ⟨_,hn,_⟩:=I.loc;hn.lt
theorem Inv.sz (I:Inv X pins σ H s):X.s₀.heap.objs.size<=s.heap.objs.size:=aH I.ok.above (gk I.lt)
theorem Inv.nofs (I:Inv X pins σ H s){a:Addr}(h:s.heap.objs.size<=a):a ∉ X.fs:=fun hb=>by
 obtain ⟨_,o,ho,_⟩:=I.ok.funs.mem hb;exact absurd (aE (Heap.lt_size ho) (aH I.sz h)) (ca _)
theorem Inv.cne (I:Inv X pins σ H s):∀ x c,X.env.cells.lookup x=some c->c≠X.env.locals:=fun x c e z=>by
 obtain ⟨v,o,ho,hd⟩:=I.cell x c e;obtain ⟨m,⟨o',es,ep,ho',hd',_⟩,_⟩:=I.loc;rw [z,ho'] at ho;cases ho;rw [hd'] at hd;cases hd
theorem Inv.funs (I:Inv X pins σ H s):s.heap.FunFrames X.base X.outer:=by
 have all:∀ (l:List Env),(∀ b∈CJ l,b∈X.fs)->X.s₀.heap.FunFrames X.base l->s.heap.FunFrames X.base l:=by
  intro l;induction l with
  | nil=>intro _ _;trivial
  | cons env r ih =>
   intro hs hl;obtain ⟨hk,⟨L,o,hf,hn,ho,hd⟩,hr⟩:=hl;have hL:L∈X.fs:=hs L (by unfold CJ;rw [dw,hf];exact ar);obtain ⟨sl,e⟩:=I.base.slot L o ho (I.ok.frf L hL) hL fun z=>I.ok.exfs L z hL;exact ⟨hk,⟨L,_,hf,hn,e,hd⟩,ih (fun b hb=>hs b (by unfold CJ;rw [dw,hf];exact aw _ hb)) hr⟩
 exact all X.outer (fun _ hb=>hb) I.ok.funs
theorem Inv.stack (I:Inv X pins σ H s):s.heap.FunFrames X.base X.stack:=by
 rcases I.ok.stk with e | ⟨e,hf⟩
 ·rw [e];exact I.funs
 ·rw [e];obtain ⟨m,hn,_⟩:=I.loc;refine .cons (by rw [I.ok.kind];decide) hf hn ?_ I.funs;exact Heap.get?_none_of_le (aH I.ok.bsz I.ok.above)
theorem Inv.stkSub (I:Inv X pins σ H s):∀ b∈CJ X.stack,b∈X.env.locals::X.fs:=fun b hb=>by
 rcases I.ok.stk with e | ⟨e,hf⟩
 ·rw [e] at hb;exact aw _ hb
 ·rw [e] at hb;unfold CJ at hb;rw [dw,hf] at hb;exact hb
theorem Inv.stkFree (I:Inv X pins σ H s):∀ b∈CJ X.stack,H b=none:=fun b hb=>by
 rcases au.mp (I.stkSub b hb) with e | hb
 ·rw [e];exact I.free
 ·obtain ⟨_,o,ho,_⟩:=I.ok.funs.mem hb;exact I.base.free b o ho (I.ok.frf b hb) fun z=>I.ok.exfs b z hb
theorem Inv.step {g':Array GenState}{t':Nat}{d':Drawn}{ch:List Addr}(I:Inv X pins σ H s)
  (hch:∀ b∈ch,(b∈X.ex\/X.s₀.heap.objs.size<=b)/\b≠X.env.locals/\(∀ x c,X.env.cells.lookup x=some c->c≠b)/\∀ p∈X.pn++pins,p.1≠b)
  (keep:∀ b o,b≠X.env.locals->b ∉ X.fs->b ∉ ch->s.heap.get? b=some o->H b=none->h'.get? b=some o)
  (slot:∀ b o,b≠X.env.locals->b∈X.fs->b ∉ ch->s.heap.get? b=some o->H b=none->∃ sl,h'.get? b=some { o with slots:=sl }) (free:∀ b o,b ∉ ch->s.heap.get? b=some o->H b=none->H' b=none)
  (there:∀ b o,b ∉ ch->s.heap.get? b=some o->∃ o',h'.get? b=some o')
  (tups:∀ b xs,H b=some (.tup xs)->H' b=some (.tup xs)) (frzs:∀ b o u,H b=some (.frz o u)->H' b=some (.frz o u)) (tbls:∀ b ps,H b=some (.tbl ps)->∃ more,H' b=some (.tbl (ps++more)))
  (ns:∀ m,s.heap.Ns X.env.locals m->h'.Ns X.env.locals m) (hok:HOk X.prog X.w H' h') (hg:AllBare g') :
  Inv X pins σ H' { s with heap:=h',gens:=g',drawn:=d',toks:=t' }:=by
 have neL:∀ b o,X.s₀.heap.get? b=some o->b≠X.env.locals:=fun b o e=>aU (aE (Heap.lt_size e) I.ok.above);have neC:∀ b o,X.s₀.heap.get? b=some o->b ∉ X.ex->b ∉ ch:=fun b o e hx hb=>by
  rcases (hch b hb).1 with z | z
  ·exact hx z
  ·exact absurd (aE (Heap.lt_size e) z) (ca _)
 have cellK:∀ x c,X.env.cells.lookup x=some c->∀ v,s.heap.IsCell c v->h'.IsCell c v:=fun x c e v ⟨o,ho,hd⟩=>by
  have nch:c ∉ ch:=fun z=>(hch c z).2.2.1 x c e rfl;by_cases hc:c∈X.fs
  ·obtain ⟨sl,q⟩:=slot c o (I.cne x c e) hc nch ho (I.freeC x c e);exact ⟨_,q,hd⟩
  ·exact ⟨o,keep c o (I.cne x c e) hc nch ho (I.freeC x c e),hd⟩
 refine ⟨I.ok,I.os,hg,⟨fun b o e n hb hx=>?_,fun b o e n hb hx=>?_,fun b o e n hx=>?_,fun b o e hx=>?_,fun b xs e=>tups b xs (I.base.tups b xs e),fun b o xs e=>frzs b o xs (I.base.frzs b o xs e),fun b ps e=>?_⟩,?_,fun x c e=>?_,?_,fun x c e=>?_,fun p hp=>?_,hok,I.len⟩
 ·exact keep b o (neL b o e) hb (neC b o e hx) (I.base.keep b o e n hb hx) (I.base.free b o e n hx)
 ·obtain ⟨sl,e1⟩:=I.base.slot b o e n hb hx;obtain ⟨sl',e2⟩:=slot b _ (neL b o e) hb (neC b o e hx) e1 (I.base.free b o e n hx);exact ⟨sl',e2⟩
 ·obtain ⟨o',e1⟩:=I.base.there b o e hx;exact free b o' (neC b o e hx) e1 (I.base.free b o e n hx)
 ·obtain ⟨o',e1⟩:=I.base.there b o e hx;exact there b o' (neC b o e hx) e1
 ·obtain ⟨m1,e1⟩:=I.base.tbls b ps e;obtain ⟨m2,e2⟩:=tbls b _ e1;exact ⟨m1++m2,by rw [e2,Array.append_assoc]⟩
 ·obtain ⟨m,hn,hl⟩:=I.loc;refine ⟨m,ns m hn,fun i x v e1 e2 e3=>?_⟩;obtain ⟨u,r,l⟩:=hl i x v e1 e2 e3;refine ⟨u,r,?_⟩;rcases l with l | ⟨k,c,e,z⟩
  ·exact .inl l
  ·exact .inr ⟨k,c,e,cellK x c e _ z⟩
 ·obtain ⟨v,z⟩:=I.cell x c e;exact ⟨v,cellK x c e v z⟩
 ·obtain ⟨m,⟨o,_,_,ho,_⟩,_⟩:=I.loc;exact free _ o (fun z=>(hch _ z).2.1 rfl) ho I.free
 ·obtain ⟨v,o,ho,hd⟩:=I.cell x c e;exact free c o (fun z=>(hch c z).2.2.1 x c e rfl) ho (I.freeC x c e)
 ·obtain ⟨e,n,ne,nf,d⟩:=I.pin p hp;have nch:p.1 ∉ ch:=fun z=>(hch p.1 z).2.2.2 p hp rfl;exact ⟨keep p.1 p.2 ne nf nch e n,free p.1 p.2 nch e n,ne,nf,d⟩
theorem Inv.un {t':Nat}(I:Inv X pins σ H s)(u:Un X.fs [] H H' s.heap h')(hok:HOk X.prog X.w H' h'):Inv X pins σ H' { s with heap:=h',toks:=t' }:=by
 obtain ⟨m,⟨o,es,ep,ho,r⟩,_⟩:=id I.loc;obtain ⟨sl,hL⟩:=u.any ho I.free (by simp);exact I.step (g':=s.gens) (d':=s.drawn) (ch:=[]) (fun _ z=>nomatch z) (fun b o _ hb _ e n=>u.keep b o e n hb (by simp)) (fun b o _ hb _ e n=>u.slot b o e n hb (by simp)) (fun b o _ e n=>u.free b o e n (by simp)) (fun b o _ e=>u.there b o e (by simp)) u.tups u.frzs u.tbls (fun m' hm=>by
  obtain ⟨o',es',ep',ho',r'⟩:=hm;rw [ho] at ho';cases ho';exact ⟨_,es',ep',hL,r'⟩) hok I.bare
theorem Inv.call {g':Array GenState}{t':Nat}{d':Drawn}{ch:List Addr}(I:Inv X pins σ H s)(u:Un (CJ X.stack) ch H H' s.heap h')(hok:HOk X.prog X.w H' h')(hg:AllBare g')
  (hch:∀ b∈ch,(b∈X.ex\/X.s₀.heap.objs.size<=b)/\b≠X.env.locals/\(∀ x c,X.env.cells.lookup x=some c->c≠b)/\∀ p∈X.pn++pins,p.1≠b) :
  Inv X pins σ H' { s with heap:=h',gens:=g',drawn:=d',toks:=t' }:=by
 obtain ⟨m,⟨o,es,ep,ho,r⟩,_⟩:=id I.loc;obtain ⟨sl,hL⟩:=u.any ho I.free fun z=>(hch _ z).2.1 rfl;exact I.step (ch:=ch) hch (fun b o hL hb hc e n=>u.keep b o e n (fun z=>(au.mp (I.stkSub b z)).elim hL hb) hc) (fun b o _ _ hc e n=>u.any e n hc) (fun b o hc e n=>u.free b o e n hc) (fun b o hc e=>u.there b o e hc) u.tups u.frzs u.tbls (fun m' hm=>by
  obtain ⟨o',es',ep',ho',r'⟩:=hm;rw [ho] at ho';cases ho';exact ⟨_,es',ep',hL,r'⟩) hok hg
theorem Inv.turned {t':Nat}{it:Addr}(I:Inv X pins σ H s)(k:∀ b o,b≠it->s.heap.get? b=some o->h'.get? b=some o)(hn:H it=none)(hL:it≠X.env.locals)
  (h1:it∈X.ex\/X.s₀.heap.objs.size<=it) (h2:∀ x c,X.env.cells.lookup x=some c->c≠it) (h3:∀ p∈X.pn++pins,p.1≠it):Inv X pins σ H { s with heap:=h',toks:=t' }:=by
 have nit:∀ b u,H b=some u->b≠it:=fun b u e z=>by rw [z,hn] at e;cases e
 refine I.step (g':=s.gens) (d':=s.drawn) (ch:=[it]) (fun b hb=>?_) (fun b o _ _ hc e _=>k b o (fun z=>hc (by simp [z])) e) (fun b o _ _ hc e _=>⟨o.slots,k b o (fun z=>hc (by simp [z])) e⟩) (fun _ _ _ _ n=>n)
  (fun b o hc e=>⟨o,k b o (fun z=>hc (by simp [z])) e⟩) (fun _ _ e=>e) (fun _ _ _ e=>e) (fun b ps e=>⟨#[],by rw [e];simp⟩) (fun m hm=>?_) (fun b u e=>?_) I.bare
 ·have e:b=it:=by simpa using hb
  subst e;exact ⟨h1,hL,h2,h3⟩
 ·obtain ⟨o,es,ep,ho,r⟩:=hm;exact ⟨o,es,ep,k _ o (Ne.symm hL) ho,r⟩
 ·refine (I.hok b u e).stay (fun c v hc q=>k c v ?_ q) (fun _ q=>q) fun _ _ q=>q;rcases hc with z | z
  ·rw [z];exact nit b u e
  ·exact nit c _ z
theorem Inv.tok (I:Inv X pins σ H s)(t:Nat):Inv X pins σ H { s with toks:=t }:=I.un (h':=s.heap) (t':=t) Un.refl I.hok
theorem Inv.kept {t':Nat}(I:Inv X pins σ H s)(k:∀ b u,s.heap.get? b=some u->h'.get? b=some u):Inv X pins σ H { s with heap:=h',toks:=t' }:=I.un (Un.kept k) (I.hok.kept k)
theorem Inv.laid {a:Addr}{o:HO}{t':Nat}(I:Inv X pins σ H s)(k:∀ b u,s.heap.get? b=some u->h'.get? b=some u)(hp:s.heap.objs.size<=a)(new:ObjOk X.prog X.w (tN H a o) h' a o) :
  Inv X pins σ (tN H a o) { s with heap:=h',toks:=t' }:=I.un (Un.laid k hp (I.hok.fresh hp)) (I.hok.laid k hp new)
theorem Inv.write {x e:Addr}{o:HO}{t':Nat}(I:Inv X pins σ H s)(mu:LR (H x))(he:e=x\/H e=some (.own x))(k:∀ b u,b≠e->s.heap.get? b=some u->h'.get? b=some u)(heo:∃ u,h'.get? e=some u)
  (new:ObjOk X.prog X.w (tN H x o) h' x o):Inv X pins σ (tN H x o) { s with heap:=h',toks:=t' }:=I.un (Un.write mu he k heo) (I.hok.write mu he k heo new)
theorem Inv.pins_of {pins':List (Addr×Obj)}(I:Inv X pins σ H s)(h:∀ p∈pins',s.heap.get? p.1=some p.2/\H p.1=none/\p.1≠X.env.locals/\p.1 ∉ X.fs/\∀ v,p.2.data ≠ .cell v):Inv X pins' σ H s :=
 ⟨I.ok,I.os,I.bare,I.base,I.loc,I.cell,I.free,I.freeC,fun p hp=>(cu.mp hp).elim (fun z=>I.pin p (g6 _ z)) (h p),I.hok,I.len⟩
theorem At {N:List Str}(hN:N.Nodup){i j:Nat}{x:Str}(a:N[i]? = some x)(b:N[j]? = some x):i=j:=by
 obtain ⟨h1,e1⟩:=aj.mp a;obtain ⟨h2,e2⟩:=aj.mp b;exact (List.getElem_inj hN).mp (e1.trans e2.symm)
theorem yg {M:Model}{A:Around}{E:Value->Shared->Prop}{i:Nat}{x:Str}{v:V}{u:Value}{Q:Unit->Shared->Prop}(I:Inv X pins σ H s)(hN:X.N.Nodup)(hi:X.N[i]? = some x)(hx:DH X.env.scope x)(r:RelV v u)
  (h:∀ s',Inv X pins (σ.set i (some v)) H s'->(∃ a,Heap.SameBut a s.heap s'.heap/\(a=X.env.locals\/X.env.cells.lookup x=some a))->Q () s') (hf:X.fn x=true\/X.env.scope.names.lookup x=some .local:=by first | exact .inl rfl | exact .inr rfl | assumption):wpAny M A (storeName X.env x u) Q E s:=by
 obtain ⟨m,hn,hl⟩:=id I.loc;have hcls:(X.env.scope.kind == .class || (X.env.scope.kind == .module && X.env.locals != X.env.globals))=false:=by rw [I.ok.kind];rfl
 have hiσ:i<σ.length:=by rw [I.len];exact (aj.mp hi).1
 have cne:=I.cne;have tracked:∀ {a:Addr} {h':Heap},(∃ o,s.heap.get? a=some o/\H a=none)->Heap.SameBut a s.heap h'->HOk X.prog X.w H h':=fun {a h'} ha hs b ob e=>by
  obtain ⟨_,_,hfree⟩:=ha;refine (I.hok b ob e).stay (fun c w' hc q=>(hs.2 c ?_).trans q) (fun _ q=>q) fun _ _ q=>q;rintro rfl;rcases hc with rfl | hc
  ·rw [hfree] at e;cases e
  ·rw [hfree] at hc;cases hc
 rcases hx with hk | hk
 ·refine wpAny_storeName_local hk hn (fun h' hn' hs=>?_) hcls;obtain ⟨oL,_,_,hoL,_⟩:=id hn;refine h _ ⟨I.ok,I.os,I.bare,⟨fun b o e n hb hx=>?_,fun b o e n hb hx=>?_,I.base.free,fun b o e hx=>?_,I.base.tups,I.base.frzs,I.base.tbls⟩,⟨_,hn',fun j y v' e1 e2 e3=>?_⟩,fun y c e=>?_,I.free,I.freeC,fun p hp=>?_,tracked ⟨oL,hoL,I.free⟩ hs,by simpa using I.len⟩ ⟨_,hs,.inl rfl⟩
  ·exact (hs.2 b (aU (aE (Heap.lt_size e) I.ok.above))).trans (I.base.keep b o e n hb hx)
  ·obtain ⟨sl,e1⟩:=I.base.slot b o e n hb hx;exact ⟨sl,(hs.2 b (aU (aE (Heap.lt_size e) I.ok.above))).trans e1⟩
  ·obtain ⟨o',e1⟩:=I.base.there b o e hx;exact ⟨o',(hs.2 b (aU (aE (Heap.lt_size e) I.ok.above))).trans e1⟩
  ·by_cases hj:j=i
   ·subst hj;rw [hi] at e1;cases e1;rw [eX hiσ] at e2;cases e2;exact ⟨u,r,.inl ⟨hk,by simp⟩⟩
   ·rw [aK (Ne.symm hj)] at e2;obtain ⟨u',r',q⟩:=hl j y v' e1 e2 e3;refine ⟨u',r',?_⟩;rcases q with ⟨k,e⟩ | ⟨k,c,e,z⟩
    ·refine .inl ⟨k,?_⟩;have:y≠x:=fun e=>hj (At hN e1 (e ▸ hi));simp [this,e]
    ·exact .inr ⟨k,c,e,z.sameBut hs (cne y c e)⟩
  ·obtain ⟨w',z⟩:=I.cell y c e;exact ⟨w',z.sameBut hs (cne y c e)⟩
  ·obtain ⟨e,n,ne,nf,d⟩:=I.pin p hp;exact ⟨(hs.2 p.1 ne).trans e,n,ne,nf,d⟩
 ·have hfn:X.fn x=true:=by
   rcases hf with z | z
   ·exact z
   ·rw [z] at hk;cases hk
  obtain ⟨c,hc⟩:=I.ok.has x (.inl hk);obtain ⟨w',z⟩:=I.cell x c hc;refine wpAny_storeName_cell I.ok.kind hk hc z (fun h' hc' hs=>?_);obtain ⟨oc,hoc,hocd⟩:=id z;refine h { s with heap:=h' } ⟨I.ok,I.os,I.bare,⟨fun b o e n hb hx=>?_,fun b o e n hb hx=>?_,I.base.free,fun b o e hx=>?_,I.base.tups,I.base.frzs,I.base.tbls⟩,⟨m,hn.sameBut hs (Ne.symm (cne x c hc)),fun j y v' e1 e2 e3=>?_⟩,fun y c' e=>?_,I.free,I.freeC,fun p hp=>?_,tracked ⟨oc,hoc,I.freeC x c hc⟩ hs,by simpa using I.len⟩ ⟨c,hs,.inr hc⟩
  ·exact (hs.2 b (aU (aE (Heap.lt_size e) (I.ok.cab x c hfn hc)))).trans (I.base.keep b o e n hb hx)
  ·obtain ⟨sl,e1⟩:=I.base.slot b o e n hb hx;exact ⟨sl,(hs.2 b (aU (aE (Heap.lt_size e) (I.ok.cab x c hfn hc)))).trans e1⟩
  ·obtain ⟨o',e1⟩:=I.base.there b o e hx;exact ⟨o',(hs.2 b (aU (aE (Heap.lt_size e) (I.ok.cab x c hfn hc)))).trans e1⟩
  ·by_cases hj:j=i
   ·subst hj;rw [hi] at e1;cases e1;rw [eX hiσ] at e2;cases e2;exact ⟨u,r,.inr ⟨.inl hk,c,hc,hc'⟩⟩
   ·rw [aK (Ne.symm hj)] at e2;obtain ⟨u',r',q⟩:=hl j y v' e1 e2 e3;refine ⟨u',r',?_⟩;rcases q with q | ⟨k,c',e,z'⟩
    ·exact .inl q
    ·refine .inr ⟨k,c',e,z'.sameBut hs ?_⟩;rintro rfl;exact hj (At hN e1 (I.ok.inj _ _ _ e hc ▸ hi))
  ·by_cases hcc:c'=c
   ·subst hcc;exact ⟨_,hc'⟩
   ·obtain ⟨w2,z2⟩:=I.cell y c' e;exact ⟨w2,z2.sameBut hs hcc⟩
  ·obtain ⟨e,n,ne,nf,d⟩:=I.pin p hp;refine ⟨(hs.2 p.1 ?_).trans e,n,ne,nf,d⟩;intro q;rw [q,hoc] at e;have q':oc=p.2:=Option.some.inj e;exact d w' (by rw [← q'];exact hocd)
theorem uJ {M:Model}{A:Around}{E:Value->Shared->Prop}{i:Nat}{x:Str}{v:V}{u:Value}{Q:Unit->Shared->Prop}(I:Inv X pins σ H s)(hN:X.N.Nodup)(hi:X.N[i]? = some x)(hx:DH X.env.scope x)(r:RelV v u)
  (h:∀ s',Inv X pins (σ.set i (some v)) H s'->Q () s') (hf:X.fn x=true\/X.env.scope.names.lookup x=some .local:=by first | exact .inl rfl | exact .inr rfl | assumption):wpAny M A (storeName X.env x u) Q E s :=
 yg I hN hi hx r (fun s' I' _=>h s' I') hf
theorem Inv.call' {s':Shared}{ch:List Addr}(I:Inv X pins σ H s)(ho:s'.os=s.os)(u:Un (CJ X.stack) ch H H' s.heap s'.heap)(hok:HOk X.prog X.w H' s'.heap)(hg:AllBare s'.gens)
  (hch:∀ b∈ch,(b∈X.ex\/X.s₀.heap.objs.size<=b)/\b≠X.env.locals/\(∀ x c,X.env.cells.lookup x=some c->c≠b)/\∀ p∈X.pn++pins,p.1≠b):Inv X pins σ H' s':=by
 obtain ⟨h',g',d',t',o'⟩:=s';have e:o'=s.os:=ho;subst e;exact I.call (g':=g') (t':=t') (d':=d') u hok hg hch
end
abbrev XK:=Value->Option Addr->Hp->Prop
abbrev St:=List (Option V)
abbrev VK:=V->Hp->Prop
abbrev TE:=St->Hp->VK->Prop
abbrev TT:=St->Hp->(Bool->Hp->Prop)->Prop
abbrev TA:=St->Hp->(List V->Hp->Prop)->Prop
structure Ends where
 nx:St->Hp->Prop
 rt:VK
 bk:St->Hp->Prop:=fun _ _=>False
 ct:St->Hp->Prop:=fun _ _=>False
abbrev TS:=Ends->St->Hp->Prop
def EP (X:Cx)(pins:List (Addr×Obj))(σ:St)(Q:VK)(u:Value)(s':Shared):Prop:=∃ v H',Inv X pins σ H' s'/\RelV v u/\Q v H'
def TP (X:Cx)(pins:List (Addr×Obj))(σ:St)(Q:Bool->Hp->Prop)(b:Bool)(s':Shared):Prop:=∃ H',Inv X pins σ H' s'/\Q b H'
def AP (X:Cx)(pins:List (Addr×Obj))(σ:St)(Q:List V->Hp->Prop)(us:List Value)(s':Shared):Prop:=∃ vs H',Inv X pins σ H' s'/\Vals vs us/\Q vs H'
def SP (X:Cx)(pins:List (Addr×Obj))(D:Ends)(f:Flow)(s':Shared):Prop :=
 match f with
 | .next=>∃ σ' H',Inv X pins σ' H' s'/\D.nx σ' H'
 | .brk=>∃ σ' H',Inv X pins σ' H' s'/\D.bk σ' H'
 | .cont=>∃ σ' H',Inv X pins σ' H' s'/\D.ct σ' H'
 | .ret u=>∃ v σ' H',Inv X pins σ' H' s'/\RelV v u/\D.rt v H'
def PE (X:Cx)(e:Expr)(t:TE):Prop :=
 ∀ (pins:List (Addr×Obj)) (s:Shared) (σ:St) (H:Hp) (Q:VK),Inv X pins σ H s->t σ H Q->wpAny (model X.prog X.w) X.A (eval e X.env) (EP X pins σ Q) X.xe s
def PT (X:Cx)(e:Expr)(t:TT):Prop :=
 ∀ (pins:List (Addr×Obj)) (s:Shared) (σ:St) (H:Hp) (Q:Bool->Hp->Prop),Inv X pins σ H s->t σ H Q->wpAny (model X.prog X.w) X.A (isTrue e X.env (eval e X.env)) (TP X pins σ Q) X.xe s
def PW (X:Cx)(e:Expr)(t:TT):Prop :=
 ∀ (whole:Sem Value) (pins:List (Addr×Obj)) (s:Shared) (σ:St) (H:Hp) (Q:Bool->Hp->Prop),Inv X pins σ H s->t σ H Q->wpAny (model X.prog X.w) X.A (isTrue e X.env whole) (TP X pins σ Q) X.xe s
theorem PW.pt {X:Cx}{e:Expr}{t:TT}(h:PW X e t):PT X e t:=h _
def PA (X:Cx)(es:List Expr)(t:TA):Prop :=
 ∀ (pos:Pos) (pins:List (Addr×Obj)) (s:Shared) (σ:St) (H:Hp) (Q:List V->Hp->Prop),Inv X pins σ H s->t σ H Q->wpAny (model X.prog X.w) X.A (spliced (backTo pos (starEach es X.env))) (AP X pins σ Q) X.xe s
def PS (X:Cx)(st:Stmt)(t:TS):Prop :=
 ∀ (pins:List (Addr×Obj)) (s:Shared) (σ:St) (H:Hp) (D:Ends),Inv X pins σ H s->t D σ H->wpAny (model X.prog X.w) X.A (exec st X.env) (SP X pins D) X.xe s
def PSs (X:Cx)(st:List Stmt)(t:TS):Prop :=
 ∀ (pins:List (Addr×Obj)) (s:Shared) (σ:St) (H:Hp) (D:Ends),Inv X pins σ H s->t D σ H->wpAny (model X.prog X.w) X.A (execs st X.env) (SP X pins D) X.xe s
theorem tv {α:Type}{t:Sem α}{Q Q':α->Shared->Prop}{M:Model}{A:Around}{E:Value->Shared->Prop}{s:Shared}(h:wpAny M A t Q E s)(hQ:∀ a s,Q a s->Q' a s):wpAny M A t Q' E s:=wpAny_mono h hQ fun _ _ x=>x
end L2
namespace L2
open PySem PySem.Spec PyProof.Rows
section
variable {X:Cx}
def vz (i:Nat):TE:=fun σ H Q=>∃ v,σ[i]? = some (some v)/\Q v H
def tC (v:V):TE:=fun _ H Q=>Q v H
theorem Bh {i:Nat} {x:Str} {pos:Pos} (hN:X.N[i]? = some x) (hv:Io X.env.scope x) (hd:(x == ("__debug__" : Str))=false:=by decide) (hcd:(x == ("__classdict__" : Str))=false:=by decide):PE X (.Name x pos) (vz i):=by
 intro pins s σ H Q I h;obtain ⟨v,e,h⟩:=h;obtain ⟨m,hn,hl⟩:=I.loc;obtain ⟨u,r,l⟩:=hl i x v hN e hv;have fin:EP X pins σ Q u s:=⟨v,H,I,r,h⟩;rcases l with ⟨hk,hm⟩ | ⟨hk,c,hc,hcell⟩
 ·exact wpAny_Name (wpAny_loadName_local I.ok.kind hk hn hm fin) hd
 ·rcases hk with hk | hk
  ·exact wpAny_Name (wpAny_loadName_cell I.ok.kind hk hc hcell fin) hd
  ·exact wpAny_Name (wpAny_loadName_free I.ok.kind hk hc hcell fin hcd) hd
theorem sU {i j pos}:PE X (.Constant (.int i) j pos) (tC (.int i)):=fun _ _ _ H _ I h=>wpAny_Constant_int ⟨.int i,H,I.tok _,⟨_,rfl⟩,h⟩
theorem KP {b j pos}:PE X (.Constant (.bool b) j pos) (tC (.bl b)):=fun _ _ _ H _ I h=>Constant_bool ⟨.bl b,H,I,rfl,h⟩
theorem Ji {j pos}:PE X (.Constant .none j pos) (tC .non):=fun _ _ _ H _ I h=>Constant_none ⟨.non,H,I,rfl,h⟩
theorem Jf {x j pos}:PE X (.Constant (.str x) j pos) (tC (.str x)):=fun _ _ _ H _ I h=>Calls.Constant_str ⟨.str x,H,I.tok _,⟨_,rfl⟩,h⟩
def Gl (X:Cx)(x:Str):Prop:=X.env.kindOf x=some .globalImplicit
theorem Cz {E:Value->Shared->Prop}{pins:List (Addr×Obj)}{s:Shared}{σ:St}{H:Hp}{x:Str}{u:Value}{pos:Pos}{Q:Value->Shared->Prop}(I:Inv X pins σ H s)(hg:Gl X x)(hm:X.mg x=some u)(h:Q u s)
  (hd:(x == ("__debug__" : Str))=false:=by decide):wpAny (model X.prog X.w) X.A (eval (.Name x pos) X.env) Q E s :=
 Calls.Name_function_global I.ok.kind hg (Calls.loadGlobal_global (by rw [I.ok.glob];exact I.mod.glob.keeps I.bk) hm h) hd
theorem wo {E:Value->Shared->Prop}{pins:List (Addr×Obj)}{s:Shared}{σ:St}{H:Hp}{x:Str}{u:Value}{pos:Pos}{Q:Value->Shared->Prop}(I:Inv X pins σ H s)(hg:Gl X x)(hm:X.mg x=none)(hv:bootBuiltins x=some u)(h:Q u s)
  (hn:x ≠ "__name__" := by decide) (hd:(x == ("__debug__" : Str))=false:=by decide):wpAny (model X.prog X.w) X.A (eval (.Name x pos) X.env) Q E s:=by
 obtain ⟨mb,h1,h2⟩:=I.mod.blt;exact Calls.Name_function_global I.ok.kind hg (Calls.loadGlobal_builtin (by rw [I.ok.glob];exact I.mod.glob.keeps I.bk) hm (by rw [I.ok.blt];exact h1.keeps I.bk) ((h2 x hn).trans hv) h) hd
theorem Gg {x:Str} {v:V} {u:Value} {pos:Pos} (hg:Gl X x) (hm:X.mg x=some u) (r:RelV v u) (hd:(x == ("__debug__" : Str))=false:=by decide):PE X (.Name x pos) (tC v) :=
 fun _ _ _ H _ I h=>Cz I hg hm ⟨v,H,I,r,h⟩ hd
def Nl (ta tb:TE)(k:Int->Int->Hp->Prop):St->Hp->Prop:=fun σ H=>ta σ H fun x H1=>tb σ H1 fun y H2=>∃ i j,x = .int i/\y = .int j/\k i j H2
variable {a b:Expr}{ta tb:TE}{pos:Pos}
def Nj (p:Int->Int->Bool)(ta tb:TE):TE:=fun σ H Q=>Nl ta tb (fun i j H2=>Q (.bl (p i j)) H2) σ H
variable {tA tB':TT}{rest:List Expr}
def Kr (t u:TT):TT:=fun σ H Q=>t σ H fun c H1=>if c=true then u σ H1 Q else Q false H1
def MT (t u:TT):TT:=fun σ H Q=>t σ H fun c H1=>if c=true then Q true H1 else u σ H1 Q
def L5 (t:TT):TT:=fun σ H Q=>t σ H fun c H1=>Q (!c) H1
theorem Cd (ha:PT X a tA):PW X (.BoolOp .And [a] pos) tA:=by
 intro wh pins s σ H Q I h;refine isTrue_and (tv (ha pins s σ H Q I h) fun c s1 e=>?_);cases c with
 | true=>exact isTrue_and_nil e
 | false=>exact e
theorem IY (ha:PT X a tA):PW X (.BoolOp .Or [a] pos) tA:=by
 intro wh pins s σ H Q I h;refine isTrue_or (tv (ha pins s σ H Q I h) fun c s1 e=>?_);cases c with
 | false=>exact isTrue_or_nil e
 | true=>exact e
theorem Ej (ha:PT X a tA)(hb:PW X (.BoolOp .And (b::rest) pos) tB'):PW X (.BoolOp .And (a::b::rest) pos) (Kr tA tB'):=by
 intro wh pins s σ H Q I h;refine isTrue_and (tv (ha pins s σ H _ I h) fun c s1 ⟨H1,I1,q1⟩=>?_);cases c with
 | true=>exact hb wh pins s1 σ H1 Q I1 q1
 | false=>exact ⟨H1,I1,q1⟩
theorem KL (ha:PT X a tA)(hb:PW X (.BoolOp .Or (b::rest) pos) tB'):PW X (.BoolOp .Or (a::b::rest) pos) (MT tA tB'):=by
 intro wh pins s σ H Q I h;refine isTrue_or (tv (ha pins s σ H _ I h) fun c s1 ⟨H1,I1,q1⟩=>?_);cases c with
 | true=>exact ⟨H1,I1,q1⟩
 | false=>exact hb wh pins s1 σ H1 Q I1 q1
theorem Ja (ha:PT X a tA):PT X (.UnaryOp .Not a pos) (L5 tA):=by
 intro pins s σ H Q I h;exact isTrue_not (ha pins s σ H (fun c H1=>Q (!c) H1) I h)
def Kq (ta tb:TE):TE:=fun σ H Q=>ta σ H fun x H1=>∃ c,x = .bl c/\if c=true then tb σ H1 Q else Q (.bl false) H1
def L4 (ta tb:TE):TE:=fun σ H Q=>ta σ H fun x H1=>∃ c,x = .bl c/\if c=true then Q (.bl true) H1 else tb σ H1 Q
def Km (ta:TE):TE:=fun σ H Q=>ta σ H fun x H1=>∃ c,x = .bl c/\Q (.bl (!c)) H1
theorem Jg {op}{t:TE}(h:PE X a t):PE X (.BoolOp op [a] pos) t:=fun pins s σ H Q I hw=>BoolOp_one (h pins s σ H Q I hw)
theorem Jj (ha:PE X a ta)(hb:PE X (.BoolOp .And (b::rest) pos) tb):PE X (.BoolOp .And (a::b::rest) pos) (Kq ta tb):=by
 intro pins s σ H Q I h;refine BoolOp_and (tv (ha pins s σ H _ I h) fun v s1 ⟨x,H1,I1,r1,q1⟩=>?_);obtain ⟨c,rfl,q1⟩:=q1;cases r1;refine wpAny_truthy_bool ?_;cases c with
 | true=>exact hb pins s1 σ H1 Q I1 q1
 | false=>exact ⟨.bl false,H1,I1,rfl,q1⟩
theorem KO (ha:PE X a ta)(hb:PE X (.BoolOp .Or (b::rest) pos) tb):PE X (.BoolOp .Or (a::b::rest) pos) (L4 ta tb):=by
 intro pins s σ H Q I h;refine BoolOp_or (tv (ha pins s σ H _ I h) fun v s1 ⟨x,H1,I1,r1,q1⟩=>?_);obtain ⟨c,rfl,q1⟩:=q1;cases r1;refine wpAny_truthy_bool ?_;cases c with
 | false=>exact hb pins s1 σ H1 Q I1 q1
 | true=>exact ⟨.bl true,H1,I1,rfl,q1⟩
theorem Jh (ha:PE X a ta):PE X (.UnaryOp .Not a pos) (Km ta):=by
 intro pins s σ H Q I h;refine UnaryOp_ (tv (ha pins s σ H _ I h) fun v s1 ⟨x,H1,I1,r1,q1⟩=>?_);obtain ⟨c,rfl,q1⟩:=q1;cases r1;exact not_of (wpAny_truthy_bool ⟨.bl (!c),H1,I1,rfl,q1⟩)
def Ni (t:TT)(ta tb:TE):TE:=fun σ H Q=>t σ H fun c H1=>if c=true then ta σ H1 Q else tb σ H1 Q
theorem Ew {c:Expr}(hc:PT X c tA)(ha:PE X a ta)(hb:PE X b tb):PE X (.IfExp c a b pos) (Ni tA ta tb):=by
 intro pins s σ H Q I h;refine wpAny_IfExp (tv (hc pins s σ H _ I h) fun d s1 ⟨H1,I1,q1⟩=>?_);cases d with
 | true=>exact ha pins s1 σ H1 Q I1 q1
 | false=>exact hb pins s1 σ H1 Q I1 q1
end
end L2
namespace L2
open PySem PySem.Spec PyProof.Rows
def SqL (K:Frag)(H:Hp)(a:Addr)(xs:List V):Prop :=
 Rd H a (.lst xs) \/
  ∃ (o:Obj) (its:Array Value) (n:Nat),K.lookup a=some o/\o.cls = .type "list" /\ o.dict=none/\o.data = .seq its n/\its.size<=sizeLine/\Vals xs its.toList
def SqT (K:Frag)(H:Hp)(a:Addr)(xs:List V):Prop :=
 Rd H a (.tup xs) \/
  ∃ (o:Obj) (its:Array Value) (n:Nat),K.lookup a=some o/\o.cls = .type "tuple" /\ o.data = .seq its n/\its.size<=sizeLine/\Vals xs its.toList
def MK:Value->Option V
 | .none=>some .non
 | .bool b=>some (.bl b)
 | .int i _=>some (.int i)
 | .str x _=>some (.str x)
 | .bytes b _=>some (.byt b)
 | .float b _=>some (.flt b)
 | .ref a=>some (.ref a)
 | .type n=>some (.ty n)
 | _=>none
theorem RelV.abs {x:V}{u:Value}(r:RelV x u):MK u=some x:=by
 cases x with
 | non=>cases r;rfl
 | bl _=>cases r;rfl
 | int _=>obtain ⟨t,rfl⟩:=r;rfl
 | str _=>obtain ⟨t,rfl⟩:=r;rfl
 | byt _=>obtain ⟨t,rfl⟩:=r;rfl
 | flt _=>obtain ⟨t,rfl⟩:=r;rfl
 | ref _=>cases r;rfl
 | ty _=>cases r;rfl
theorem RelV.inj {x y:V}{u:Value}(r:RelV x u)(q:RelV y u):x=y:=Option.some.inj (r.abs.symm.trans q.abs)
theorem Vals.inj:∀ {xs ys:List V} {us:List Value},Vals xs us->Vals ys us->xs=ys
 | _,_,_,.nil,.nil=>rfl
 | _,_,_,.cons r t,.cons r' t'=>by rw [r.inj r',Vals.inj t t']
section
variable {X:Cx}{pins:List (Addr×Obj)}{σ:St}{H:Hp}{s:Shared}{a:Addr}{xs ys:List V}
theorem SqL.of {K:Frag}(h:H a=some (.lst xs)):SqL K H a xs:=.inl (.inl h)
theorem SqT.of {K:Frag}(h:H a=some (.tup xs)):SqT K H a xs:=.inl (.inl h)
theorem Inv.list (I:Inv X pins σ H s)(h:SqL X.K H a xs):∃ its:List Value,Vals xs its/\PlainL s.heap a its.toArray/\xs.length<=sizeLine:=by
 rcases h with h | ⟨o,its,n,hk,hc,hd,hs,hz,r⟩
 ·obtain ⟨z,its,n,r,e⟩:=h.ok I.hok;exact ⟨its,r,⟨_,n,e,rfl,rfl,rfl⟩,z⟩
 ·refine ⟨its.toList,r,⟨o,n,I.kIn a o hk,hc,hd,by simpa using hs⟩,?_⟩;have e:=r.length;simp only [dr] at e;omega
theorem Inv.tuple (I:Inv X pins σ H s)(h:SqT X.K H a xs):∃ its:List Value,Vals xs its/\IsTup s.heap a its.toArray/\xs.length<=sizeLine:=by
 rcases h with h | ⟨o,its,n,hk,hc,hs,hz,r⟩
 ·obtain ⟨z,its,r,p⟩:=h.ok I.hok;exact ⟨its,r,p,z⟩
 ·refine ⟨its.toList,r,⟨o,I.kIn a o hk,hc,n,by simpa using hs⟩,?_⟩;have e:=r.length;simp only [dr] at e;omega
theorem Inv.list_inj (I:Inv X pins σ H s)(h:SqL X.K H a xs)(h':SqL X.K H a ys):xs=ys:=by
 obtain ⟨its,r,⟨o,n,e,_,_,d⟩,_⟩:=I.list h;obtain ⟨its',r',⟨o',n',e',_,_,d'⟩,_⟩:=I.list h';rw [e] at e';cases e';rw [d] at d';injection d' with d1 _;have:its=its':=by simpa using congrArg Array.toList d1
 subst this;exact r.inj r'
theorem Inv.tuple_inj (I:Inv X pins σ H s)(h:SqT X.K H a xs)(h':SqT X.K H a ys):xs=ys:=by
 obtain ⟨its,r,⟨o,e,_,n,d⟩,_⟩:=I.tuple h;obtain ⟨its',r',⟨o',e',_,n',d'⟩,_⟩:=I.tuple h';rw [e] at e';cases e';rw [d] at d';injection d' with d1 _;have:its=its':=by simpa using congrArg Array.toList d1
 subst this;exact r.inj r'
end
abbrev Cx.wish (X:Cx)(E:Value->Shared->Prop):Cx:={ X with xe:=E }
abbrev Cx.nox (X:Cx):Cx:=X.wish fun _ _=>False
theorem Cx.Ok.wish {X:Cx}(ok:X.Ok)(E:Value->Shared->Prop):(X.wish E).Ok :=
 ⟨ok.mod,ok.kind,ok.glob,ok.blt,ok.above,ok.inj,ok.has,ok.cab,ok.hd,ok.frames,ok.stk,ok.exf,ok.bs,ok.bsz,ok.noex,ok.exfs,ok.funs,ok.frf,ok.sr,ok.rn⟩
theorem Cx.Ok.unwish {X:Cx}{E:Value->Shared->Prop}(ok:(X.wish E).Ok):X.Ok :=
 ⟨ok.mod,ok.kind,ok.glob,ok.blt,ok.above,ok.inj,ok.has,ok.cab,ok.hd,ok.frames,ok.stk,ok.exf,ok.bs,ok.bsz,ok.noex,ok.exfs,ok.funs,ok.frf,ok.sr,ok.rn⟩
section
variable {X:Cx}{pins:List (Addr×Obj)}{σ:St}{H:Hp}{s:Shared}{E:Value->Shared->Prop}
theorem Inv.wish (I:Inv X pins σ H s)(E:Value->Shared->Prop):Inv (X.wish E) pins σ H s:=⟨I.ok.wish E,I.os,I.bare,I.base,I.loc,I.cell,I.free,I.freeC,I.pin,I.hok,I.len⟩
theorem Inv.unwish (I:Inv (X.wish E) pins σ H s):Inv X pins σ H s:=⟨I.ok.unwish,I.os,I.bare,I.base,I.loc,I.cell,I.free,I.freeC,I.pin,I.hok,I.len⟩
theorem SP.unwish {D:Ends}{f:Flow}{s':Shared}(h:SP (X.wish E) pins D f s'):SP X pins D f s':=by
 cases f with
 | next=>obtain ⟨σ',H',I,q⟩:=h;exact ⟨σ',H',I.unwish,q⟩
 | brk=>obtain ⟨σ',H',I,q⟩:=h;exact ⟨σ',H',I.unwish,q⟩
 | cont=>obtain ⟨σ',H',I,q⟩:=h;exact ⟨σ',H',I.unwish,q⟩
 | ret u=>obtain ⟨v,σ',H',I,r,q⟩:=h;exact ⟨v,σ',H',I.unwish,r,q⟩
theorem PSs.nox {st:List Stmt}{t:TS}(h:PSs X.nox st t):PSs X st t:=fun pins s σ H D I hw =>
 wpAny_mono (h pins s σ H D (I.wish _) hw) (fun _ _ q=>q.unwish) fun _ _ z=>False.elim z
end
section
variable {X:Cx}{st:Stmt}{rest:List Stmt}{t u:TS}{e:Expr}{te:TE}{pos:Pos}
def Hr:TS:=fun D σ H=>D.nx σ H
def Ki (t u:TS):TS:=fun D σ H=>t { D with nx:=u D } σ H
theorem pss_nil:PSs X [] Hr:=fun _ _ σ H _ I h=>wpAny_execs_nil ⟨σ,H,I,h⟩
theorem t5 (h1:PS X st t)(h2:PSs X rest u):PSs X (st::rest) (Ki t u):=by
 intro pins s σ H D I h;refine wpAny_execs_cons (tv (h1 pins s σ H { D with nx:=u D } I h) fun f s1 q=>?_);cases f with
 | next =>
  obtain ⟨σ',H',I',q⟩:=q;exact h2 pins s1 σ' H' D I' q
 | ret v=>exact q
 | brk=>exact q
 | cont=>exact q
theorem uz (h1:PS X st t):PSs X [st] t:=by
 intro pins s σ H D I h;refine wpAny_execs_cons (tv (h1 pins s σ H D I h) fun f s1 q=>?_);cases f with
 | next=>exact wpAny_execs_nil q
 | ret v=>exact q
 | brk=>exact q
 | cont=>exact q
def IA:TS:=fun D σ H=>D.bk σ H
theorem ps_pass:PS X (.Pass pos) Hr:=fun _ _ σ H _ I h=>wpAny_Pass ⟨σ,H,I,h⟩
theorem ps_break:PS X (.Break pos) IA:=fun _ _ σ H _ I h=>wpAny_Break ⟨σ,H,I,h⟩
theorem Inv.quiet {pins:List (Addr×Obj)}{σ:St}{H:Hp}{s:Shared}(I:Inv X pins σ H s):interactive X.env=false:=by simp [interactive,I.ok.kind]
def Kn (te:TE):TS:=fun D σ H=>te σ H fun _ H1=>D.nx σ H1
theorem yU (he:PE X e te)(hs:swapsWith e none pos.line X.env=pure false:=by rfl):PS X (.Expr e pos) (Kn te):=by
 intro pins s σ H D I h;exact wpAny_Expr_any (tv (he pins s σ H _ I h) fun v s1 ⟨x,H1,I1,r1,q1⟩=>⟨σ,H1,I1,q1⟩) I.quiet hs
def L3 (te:TE):TS:=fun D σ H=>te σ H D.rt
theorem yT (he:PE X e te):PS X (.Return (some e) pos) (L3 te):=by
 intro pins s σ H D I h;exact wpAny_Return_some (tv (he pins s σ H _ I h) fun v s1 ⟨x,H1,I1,r1,q1⟩=>⟨x,σ,H1,I1,r1,q1⟩)
def Kj:TS:=fun D _ H=>D.rt .non H
theorem ps_retN:PS X (.Return none pos) Kj:=fun _ _ σ H _ I h=>wpAny_Return_none ⟨.non,σ,H,I,rfl,h⟩
def L7 (c:TT)(t u:TS):TS:=fun D σ H=>c σ H fun b H1=>if b=true then t D σ H1 else u D σ H1
theorem Cf {c:Expr}{a b:List Stmt}{tc:TT}(hc:PT X c tc)(ha:PSs X a t)(hb:PSs X b u):PS X (.If c a b pos) (L7 tc t u):=by
 intro pins s σ H D I h;refine wpAny_If (tv (hc pins s σ H _ I h) fun d s1 ⟨H1,I1,q1⟩=>?_);cases d with
 | true=>exact ha pins s1 σ H1 D I1 q1
 | false=>exact hb pins s1 σ H1 D I1 q1
end
abbrev TG:=V->St->Hp->(St->Hp->Prop)->Prop
abbrev Ip:=List V->St->Hp->(St->Hp->Prop)->Prop
def PG (X:Cx)(target:Expr)(t:TG):Prop :=
 ∀ (pins:List (Addr×Obj)) (s:Shared) (σ:St) (H:Hp) (v:V) (u:Value) (Q:St->Hp->Prop),Inv X pins σ H s->RelV v u->t v σ H Q ->
  wpAny (model X.prog X.w) X.A (assign target X.env u) (fun _ s'=>∃ σ' H',Inv X pins σ' H' s'/\Q σ' H') X.xe s
def Lv (X:Cx)(ts:List Expr)(t:Ip):Prop :=
 ∀ (pins:List (Addr×Obj)) (s:Shared) (σ:St) (H:Hp) (vs:List V) (us:List Value) (Q:St->Hp->Prop),Inv X pins σ H s->Vals vs us->t vs σ H Q ->
  wpAny (model X.prog X.w) X.A (assignInOrder ((assignEach ts X.env).map (·.2)) us) (fun _ s'=>∃ σ' H',Inv X pins σ' H' s'/\Q σ' H') X.xe s
abbrev FL:=V->V->V->Hp->(Hp->Prop)->Prop
def J5 (X:Cx)(t:FL):Prop :=
 ∀ (pins:List (Addr×Obj)) (s:Shared) (σ:St) (H:Hp) (o i v:V) (ov iv u:Value) (Q:Hp->Prop),Inv X pins σ H s->RelV o ov->RelV i iv->RelV v u->t o i v H Q ->
  wpAny (model X.prog X.w) X.A (setItem ov iv u) (fun _ s'=>∃ H',Inv X pins σ H' s'/\Q H') X.xe s
abbrev Lq:=V->V->Hp->VK->Prop
def M7 (X:Cx)(op:Operator)(t:Lq):Prop :=
 ∀ (pins:List (Addr×Obj)) (s:Shared) (σ:St) (H:Hp) (x y:V) (v u:Value) (Q:VK),Inv X pins σ H s->RelV x v->RelV y u->t x y H Q ->
  wpAny (model X.prog X.w) X.A (inplaceOp op v u) (EP X pins σ Q) X.xe s
section
variable {X:Cx}{pos:Pos}
def yx (i:Nat):TG:=fun v σ H Q=>Q (σ.set i (some v)) H
theorem Ci {i:Nat}{x:Str}(hN:X.N.Nodup)(hi:X.N[i]? = some x)(hx:DH X.env.scope x)(hf:X.fn x=true\/X.env.scope.names.lookup x=some .local:=by first | exact .inl rfl | exact .inr rfl | assumption):PG X (.Name x pos) (yx i):=by
 intro pins s σ H v u Q I r h;exact wpAny_assign_Name (uJ I hN hi hx r (fun s' I'=>⟨_,H,I',h⟩) hf)
def K9:Ip:=fun vs σ H Q=>vs=[]/\Q σ H
def H9 (t:TG)(u:Ip):Ip:=fun vs σ H Q=>∃ v r,vs=v::r/\t v σ H fun σ' H'=>u r σ' H' Q
theorem Gf:Lv X [] K9:=by
 intro pins s σ H vs us Q I r h;obtain ⟨e,h⟩:=h;subst e;cases r;exact assignInOrder_nil ⟨σ,H,I,h⟩
theorem Eu {e:Expr}{es:List Expr}{t:TG}{u:Ip}(h1:PG X e t)(h2:Lv X es u)
  (hs:(assignEach (e::es) X.env).map (·.2)=assign e X.env::(assignEach es X.env).map (·.2):=by rfl):Lv X (e::es) (H9 t u):=by
 intro pins s σ H vs us Q I r h;obtain ⟨v,vr,e1,h⟩:=h;subst e1;cases r with
 | cons r rr =>
  rw [hs];refine assignInOrder_cons (tv (h1 pins s σ H _ _ _ I r h) fun _ s1 ⟨σ1,H1,I1,q1⟩=>?_);exact h2 pins s1 σ1 H1 _ _ Q I1 rr q1
def K7 (K:Frag)(n:Nat)(t:Ip):TG:=fun v σ H Q=>∃ a xs,v = .ref a/\SqT K H a xs/\xs.length=n/\t xs σ H Q
theorem Bg {es:List Expr}{k:Nat}{t:Ip}{n:Nat}(hc:X.calm=true)(h:Lv X es t)
  (hn:(assignEach es X.env).length=n:=by rfl) (hst:(assignEach es X.env).findIdx? (·.1)=none:=by rfl):PG X (.Tuple es k pos) (K7 X.K n t):=by
 intro pins s σ H v u Q I r hw;obtain ⟨a,xs,e1,hq,hl,hw⟩:=hw;subst e1;cases r;obtain ⟨its,rv,ht,hz⟩:=I.tuple hq;refine assign_Tuple_tuple (I.ok.hd hc) ht (by simp [hn,← hl,rv.length]) hst fun h' hx=>?_;have I1:Inv X pins σ H { s with heap:=h' }:=I.kept (t':=s.toks) fun b o e=>hx b o (aU (Heap.lt_size e)) e;exact h pins _ σ H xs _ Q I1 (by simpa using rv) hw
def K8 (to ti:TE)(t:FL):TG:=fun v σ H Q=>to σ H fun o H1=>ti σ H1 fun i H2=>t o i v H2 fun H3=>Q σ H3
theorem vF {o i:Expr}{to ti:TE}{t:FL}(ho:PE X o to)(hi:PE X i ti)(hs:J5 X t)
  (ha:∀ v,assign (.Subscript o i pos) X.env v=(do
   let ov ← holding [v] (eval o X.env)
   let iv ← holding [v,ov] (eval i X.env)
   standAt pos
   holding [v,ov,iv] (setItem ov iv v)
   release [v,ov,iv] []):=by intro _;rfl):PG X (.Subscript o i pos) (K8 to ti t):=by
 intro pins s σ H v u Q I r h;rw [ha];refine wpAny_bind (wpAny_holding (tv (ho pins s σ H _ I h) fun ov s1 ⟨x,H1,I1,r1,q1⟩=>?_));refine wpAny_bind (wpAny_holding (tv (hi pins s1 σ H1 _ I1 q1) fun iv s2 ⟨y,H2,I2,r2,q2⟩=>?_));refine wpAny_bind (wpAny_standAt (wpAny_bind (wpAny_holding (tv (hs pins s2 σ H2 x y v ov iv u _ I2 r1 r2 r q2) fun _ s3 ⟨H3,I3,q3⟩=>?_))));exact wpAny_release ⟨σ,H3,I3,q3⟩
def IB (te:TE)(g:TG):TS:=fun D σ H=>te σ H fun x H1=>g x σ H1 D.nx
theorem uO {tg e:Expr}{te:TE}{g:TG}(he:PE X e te)(hg:PG X tg g)(hs:swapsWithSole [tg] e pos.line X.env=pure false:=by rfl)(hw:swappedStores [tg] e X.env=pure none:=by rfl)
  (h1:(assignEach [tg] X.env).map (·.2)=[assign tg X.env]:=by rfl):PS X (.Assign [tg] e pos) (IB te g):=by
 intro pins s σ H D I h;refine wpAny_Assign_stores (tv (he pins s σ H _ I h) fun v s1 ⟨x,H1,I1,r1,q1⟩=>?_) hs hw;rw [h1];exact tv (hg pins s1 σ H1 x v _ I1 r1 q1) fun _ s2 q=>q
theorem we {i:Nat}{x:Str}{e:Expr}{te:TE}{pos':Pos}(hN:X.N.Nodup)(hi:X.N[i]? = some x)(hx:DH X.env.scope x)(he:PE X e te)(hs:swapsWith e (some (.Name x pos')) pos.line X.env=pure false:=by rfl)(hf:X.fn x=true\/X.env.scope.names.lookup x=some .local:=by first | exact .inl rfl | exact .inr rfl | assumption) :
  PS X (.Assign [.Name x pos'] e pos) (IB te (yx i)):=by
 intro pins s σ H D I h;refine wpAny_Assign_Name (tv (he pins s σ H _ I h) fun v s1 ⟨y,H1,I1,r1,q1⟩=>?_) hs;exact uJ I1 hN hi hx r1 (fun s2 I2=>⟨_,H1,I2,q1⟩) hf
def Iz (i j:Nat)(ta:TA):TS:=fun D σ H=>ta σ H fun vs H1=>∃ v w,vs=[v,w]/\D.nx ((σ.set i (some v)).set j (some w)) H1
theorem Ep {i j:Nat}{x y:Str}{a b:Expr}{ta:TA}{px py pt:Pos}{kt k2 pt2}(hc:X.calm=true)(hN:X.N.Nodup)(hi:X.N[i]? = some x)(hj:X.N[j]? = some y)(hij:i≠j)
  (hx:X.env.scope.names.lookup x=some .local) (hy:X.env.scope.names.lookup y=some .local) (ha:PA X [a,b] ta)
  (hw:swappedStores [.Tuple [.Name x px,.Name y py] kt pt] (.Tuple [a,b] k2 pt2) X.env=pure (some [x,y]))
  (hs:swapsWithSole [.Tuple [.Name x px,.Name y py] kt pt] (.Tuple [a,b] k2 pt2) pos.line X.env=pure false:=by rfl) :
  PS X (.Assign [.Tuple [.Name x px,.Name y py] kt pt] (.Tuple [a,b] k2 pt2) pos) (Iz i j ta):=by
 intro pins s σ H D I h;rw [exec_Assign_arm];refine wpAny_bind (wpAny_standAt ?_);rw [hs];refine wpAny_bind (wpAny_pure ?_);rw [if_neg (by decide)];refine wpAny_bind (Tuple_ (tv (ha _ pins s σ H _ I h) fun us s1 ⟨vs,H1,I1,r1,q1⟩=>?_));obtain ⟨v,w,e1,q1⟩:=q1;subst e1;obtain ⟨u1,u2,rfl,rv,rw'⟩:∃ u1 u2,us=[u1,u2]/\RelV v u1/\RelV w u2:=by
  cases r1 with
  | cons p q =>
   cases q with
   | cons p' q' =>
    cases q';exact ⟨_,_,rfl,p,p'⟩
 refine wpAny_newObj_type ?_ (by show 2<=sizeLine;decide);have I2:Inv X pins σ H1 { s1 with heap:=s1.heap.push { cls:=.type "tuple",data:=.seq [u1,u2].toArray } }:=I1.kept (t':=s1.toks) fun b o e=>Heap.get?_push_of_some _ e;rw [hw];refine wpAny_bind (wpAny_pure ?_);show wpAny (model X.prog X.w) X.A (do rule "assign.swapped-stores";let items ← unpackItems (.ref s1.heap.objs.size) 2 none;assignInOrder [fun v=>bindName X.env y v,fun v=>bindName X.env x v] items.reverse;pure Flow.next) _ _ _;refine wpAny_bind (wpAny_rule (wpAny_bind (unpackItems_tuple (items:=#[u1,u2]) (I.ok.hd hc) (IsTup.new s1.heap _) fun h' hx'=>?_)));have I3:=I2.kept (h':=h') (t':=s1.toks) fun b o e=>hx' b o (aU (Heap.lt_size e)) e;show wpAny _ _ (assignInOrder [fun v=>bindName X.env y v,fun v=>bindName X.env x v] [u2,u1] >>= fun _=>pure Flow.next) _ _ _;refine wpAny_bind (assignInOrder_cons (wpAny_bindName (uJ I3 hN hj (.inl hy) rw' (fun s2 I4=>?_) (.inr hy))));refine assignInOrder_cons (wpAny_bindName (uJ I4 hN hi (.inl hx) rv (fun s3 I5=>assignInOrder_nil (wpAny_pure ?_)) (.inr hx)));rw [List.set_comm _ _ (Ne.symm hij)] at I5;exact ⟨_,H1,I5,q1⟩
def Mc (i:Nat)(te:TE)(ti:Lq):TS:=fun D σ H=>∃ x,σ[i]? = some (some x)/\te σ H fun y H1=>ti x y H1 fun z H2=>D.nx (σ.set i (some z)) H2
theorem Jc {i:Nat}{x:Str}{e:Expr}{te:TE}{op:Operator}{ti:Lq}{pos':Pos}(hN:X.N.Nodup)(hi:X.N[i]? = some x)(hx:DH X.env.scope x)(he:PE X e te)(ho:M7 X op ti)(hf:X.fn x=true\/X.env.scope.names.lookup x=some .local:=by first | exact .inl rfl | exact .inr rfl | assumption) :
  PS X (.AugAssign (.Name x pos') op e pos) (Mc i te ti):=by
 intro pins s σ H D I h;obtain ⟨v,e1,h⟩:=h;obtain ⟨m,hn,hl⟩:=I.loc;have vis:Io X.env.scope x:=by rcases hx with k | k;exact .inl k;exact .inr (.inl k)
 obtain ⟨u,r,l⟩:=hl i x v hi e1 vis;refine wpAny_AugAssign_Name ?_;have go:wpAny (model X.prog X.w) X.A (eval e X.env) (fun w s₂=>wpAny (model X.prog X.w) X.A (inplaceOp op u w) (fun r s₃=>wpAny (model X.prog X.w) X.A (storeName X.env x r) (fun _=>SP X pins D .next) X.xe s₃) X.xe s₂) X.xe s:=by
  refine tv (he pins s σ H _ I h) fun w s1 ⟨y,H1,I1,r1,q1⟩=>?_;refine tv (ho pins s1 σ H1 v y u w _ I1 r r1 q1) fun z s2 ⟨zv,H2,I2,r2,q2⟩=>?_;exact uJ I2 hN hi hx r2 (fun s3 I3=>⟨_,H2,I3,q2⟩) hf
 rcases l with ⟨hk,hm⟩ | ⟨hk,c,hc,hcell⟩
 ·exact wpAny_loadName_local I.ok.kind hk hn hm go
 ·rcases hk with hk | hk
  ·exact wpAny_loadName_cell I.ok.kind hk hc hcell go
  ·rcases hx with k | k
   ·have:X.env.scope.names.lookup x=some .free:=hk;rw [k] at this;cases this
   ·have:X.env.scope.names.lookup x=some .free:=hk;rw [k] at this;cases this
def Ko (to ti te:TE)(tget:V->V->Hp->VK->Prop)(tip:Lq)(tset:FL):TS:=fun D σ H=>to σ H fun o H1=>ti σ H1 fun i H2=>tget o i H2 fun x H3=>te σ H3 fun y H4=>tip x y H4 fun z H5=>tset o i z H5 fun H6=>D.nx σ H6
def Lw (X:Cx)(t:V->V->Hp->VK->Prop):Prop :=
 ∀ (pins:List (Addr×Obj)) (s:Shared) (σ:St) (H:Hp) (o i:V) (ov iv:Value) (Q:VK),Inv X pins σ H s->RelV o ov->RelV i iv->t o i H Q ->
  wpAny (model X.prog X.w) X.A (getItem ov iv) (EP X pins σ Q) X.xe s
theorem Gc {o i e:Expr}{to ti te:TE}{tget:V->V->Hp->VK->Prop}{tip:Lq}{tset:FL}{op:Operator}{tpos:Pos}(ho:PE X o to)(hi:PE X i ti)(hg:Lw X tget)(he:PE X e te)(hp:M7 X op tip)(hs:J5 X tset)
  (ha:∀ ov iv new,augStore i ov iv new=(do holding [new,ov,iv] (setItem ov iv new);release [new,ov,iv] [];pure .next):=by intros;rfl):PS X (.AugAssign (.Subscript o i tpos) op e pos) (Ko to ti te tget tip tset):=by
 intro pins s σ H D I h;refine wpAny_AugAssign_SubscriptAny (tv (ho pins s σ H _ I h) fun ov s1 ⟨x1,H1,I1,r1,q1⟩=>?_) ha;refine tv (hi pins s1 σ H1 _ I1 q1) fun iv s2 ⟨x2,H2,I2,r2,q2⟩=>?_;refine tv (hg pins s2 σ H2 x1 x2 ov iv _ I2 r1 r2 q2) fun old s3 ⟨x3,H3,I3,r3,q3⟩=>?_;refine tv (he pins s3 σ H3 _ I3 q3) fun v s4 ⟨x4,H4,I4,r4,q4⟩=>?_;refine tv (hp pins s4 σ H4 x3 x4 old v _ I4 r3 r4 q4) fun new s5 ⟨x5,H5,I5,r5,q5⟩=>?_;exact tv (hs pins s5 σ H5 x1 x2 x5 ov iv new _ I5 r1 r2 r5 q5) fun _ s6 ⟨H6,I6,q6⟩=>⟨σ,H6,I6,q6⟩
end
section
variable {X:Cx}{pos:Pos}
def Iy (c:TT)(tb:TS):TS:=fun D σ H=>∃ W:Nat->St->Hp->Prop,(∃ m,W m σ H)/\∀ m σ H,W m σ H ->
 c σ H fun b H1=>if b=true then ∃ N:St->Hp->Prop,(∀ σ' H',N σ' H'->∃ m',m'<m/\W m' σ' H')/\tb { D with nx:=N,ct:=N,bk:=D.nx } σ H1 else D.nx σ H1
theorem Eo {c:Expr}{body:List Stmt}{tc:TT}{tb:TS}(hp:PassesOwn (model X.prog X.w) X.A X.env X.xe)(hc:PT X c tc)(hb:PSs X body tb):PS X (.While c body [] pos) (Iy tc tb):=by
 intro pins s σ H D I h;obtain ⟨W,⟨m0,w0⟩,turn⟩:=h;refine wpAny_While (codeAny_whileLoop (fun n s'=>∃ σ' H',Inv X pins σ' H' s'/\W n σ' H') ?_ m0 ⟨σ,H,I,w0⟩);rintro n s1 ⟨σ1,H1,I1,w1⟩;refine wpAny_passesOwn hp (tv (hc pins s1 σ1 H1 _ I1 (turn n σ1 H1 w1)) fun b s2 ⟨H2,I2,q2⟩=>?_);cases b with
 | true =>
  obtain ⟨N,hN,q2⟩:=q2;rw [if_pos rfl];refine wpAny_passesOwn hp (tv (hb pins s2 σ1 H2 _ I2 q2) fun f s3 q3=>?_);cases f with
  | next =>
   obtain ⟨σ3,H3,I3,n3⟩:=q3;obtain ⟨m',hm,w3⟩:=hN σ3 H3 n3;exact ⟨m',hm,σ3,H3,I3,w3⟩
  | cont =>
   obtain ⟨σ3,H3,I3,n3⟩:=q3;obtain ⟨m',hm,w3⟩:=hN σ3 H3 n3;exact ⟨m',hm,σ3,H3,I3,w3⟩
  | brk=>exact q3
  | ret v=>exact q3
 | false =>
  rw [if_neg aF];exact wpAny_execs_nil ⟨σ1,H2,I2,q2⟩
end
structure It where
 go:Nat->Hp->Prop
 yld:Nat->Hp->V->Hp->Prop
 stop:Nat->Hp->Prop
def vi (X:Cx)(pins:List (Addr×Obj))(H:Hp)(b:Addr):Prop :=
 H b=none/\b≠X.env.locals/\b ∉ X.fs/\(b∈X.ex\/X.s₀.heap.objs.size<=b)/\(∀ x c,X.env.cells.lookup x=some c->c≠b)/\∀ p∈X.pn++pins,p.1≠b
theorem Inv.fpOk {X:Cx}{pins:List (Addr×Obj)}{σ:St}{H H':Hp}{s:Shared}{b:Addr}(I:Inv X pins σ H s)(hb:s.heap.objs.size<=b)(hn:H' b=none):vi X pins H' b:=by
 refine ⟨hn,gb (aE I.lt hb),I.nofs hb,.inr (aH I.sz hb),fun x c e z=>?_,fun p hp z=>?_⟩
 ·obtain ⟨v,q⟩:=I.cell x c e;exact absurd (aE q.lt (by rw [z];exact hb)) (ca _)
 ·exact absurd (aE (Heap.lt_size (I.pin p hp).1) (by rw [z];exact hb)) (ca _)
structure Turn (P:Program)(w:World)(K:Frag)(tg:Expr)(J:It)(fp:List Addr)(it:Addr)(tn:Nat->Heap->Prop):Prop where
 mem:it∈fp
 obj:∀ i h,tn i h->∀ b∈fp,∃ o,h.get? b=some o/\∀ v,o.data ≠ .cell v
 keep:∀ i h h',tn i h->(∀ b∈fp,∀ o,h.get? b=some o->h'.get? b=some o)->tn i h'
 item:∀ (X:Cx),X.prog=P->X.w=w->X.K=K->X.calm=true->∀ (i:Nat) (pins:List (Addr×Obj)) (s:Shared) (σ:St) (H:Hp) (E:Value->Shared->Prop),Inv X pins σ H s->(∀ b∈fp,vi X pins H b)->tn i s.heap->J.go i H ->
  wpAny (model P w) X.A (pyNext (.ref it)) (fun r s1=>∃ u,r=some u /\
   wpAny (model P w) X.A (letOwnedTupleGo tg (.ref it) u) (fun _ s2=>∃ x H',Inv X pins σ H' s2/\RelV x u/\J.yld i H x H'/\tn (i+1) s2.heap/\∀ b∈fp,H' b=none) E s1) E s
 done:∀ (X:Cx),X.prog=P->X.w=w->X.K=K->X.calm=true->∀ (i:Nat) (pins:List (Addr×Obj)) (s:Shared) (σ:St) (H:Hp) (E:Value->Shared->Prop),Inv X pins σ H s->(∀ b∈fp,vi X pins H b)->tn i s.heap->J.stop i H ->
  wpAny (model P w) X.A (pyNext (.ref it)) (fun r s1=>r=none/\Inv X pins σ H s1) E s
 self:∀ (A:Around) (i:Nat) (s:Shared) (Q:Value->Shared->Prop) (E:Value->Shared->Prop),tn i s.heap->Q (.ref it) s->wpAny (model P w) A (pyIter (.ref it)) Q E s
abbrev TI:=St->Hp->(It->Hp->Prop)->Prop
def M8 (X:Cx)(pins:List (Addr×Obj))(σ:St)(tg:Expr)(R:It->Hp->Prop)(itv:Value)(s2:Shared):Prop :=
 ∃ (it:Addr) (fp:List Addr) (tn:Nat->Heap->Prop) (J:It) (H':Hp),itv = .ref it/\Inv X pins σ H' s2/\Turn X.prog X.w X.K tg J fp it tn/\tn 0 s2.heap/\(∀ b∈fp,vi X pins H' b)/\R J H'
def PI (X:Cx)(tg iter:Expr)(wi:TI):Prop :=
 ∀ (pins:List (Addr×Obj)) (s:Shared) (σ:St) (H:Hp) (R:It->Hp->Prop),Inv X pins σ H s->wi σ H R ->
  wpAny (model X.prog X.w) X.A (eval iter X.env) (fun v s1=>wpAny (model X.prog X.w) X.A (pyIter v) (M8 X pins σ tg R) X.xe s1) X.xe s
theorem AE {M:Model}{A:Around}{E:Value->Shared->Prop}{s:Shared}{tg:Expr}{it:Addr}{u:Value}{o:Obj}{n:String}{vs:Array Value}{Q:Unit->Shared->Prop}(ho:s.heap.get? it=some o)(hc:o.cls = .type n)(hd:o.data = .fields vs)
  (hn:["enumerate", "zip", "dict_itemiterator", "dict_reverseitemiterator", "odict_iterator", "itertools.zip_longest", "itertools.pairwise"].contains n=false) (hQ:Q () s):wpAny M A (letOwnedTupleGo tg (.ref it) u) Q E s:=by
 unfold letOwnedTupleGo;cases tg <;> first
  | exact wpAny_pure hQ
  | (cases u <;> first
    | exact wpAny_pure hQ
    | (refine wpAny_bind (wpAny_load ho ?_)
       rw [hc,hd];show wpAny M A (if (["enumerate", "zip", "dict_itemiterator", "dict_reverseitemiterator", "odict_iterator", "itertools.zip_longest", "itertools.pairwise"].contains n && vs[0]? == some (rawInt _))=true then _ else _) Q E s;rw [if_neg (by intro h;rw [hn,Bool.false_and] at h;cases h)];exact wpAny_pure hQ))
def Nc (K:Frag)(a:Addr):It :=
 ⟨fun i H=>∃ xs x,SqL K H a xs/\xs[i]? = some x,fun i H x H'=>H'=H/\∀ xs,SqL K H a xs->xs[i]? = some x,fun i H=>∃ xs,SqL K H a xs/\xs.length<=i⟩
def Nb (K:Frag)(a:Addr):It :=
 ⟨fun i H=>∃ xs x,SqT K H a xs/\xs[i]? = some x,fun i H x H'=>H'=H/\∀ xs,SqT K H a xs->xs[i]? = some x,fun i H=>∃ xs,SqT K H a xs/\xs.length<=i⟩
def Lx (lo:Int)(n:Nat):It:=⟨fun i _=>i<n,fun i H x H'=>H'=H/\x = .int (lo+i),fun i _=>n<=i⟩
theorem CY {P:Program}{w:World}{K:Frag}{tg:Expr}(a it:Addr):Turn P w K tg (Nc K a) [it] it (fun i h=>h.IsListIter it a i) where
 mem:=by simp
 obj:=fun i h st b hb=>by
  have e:b=it:=by simpa using hb
  subst e;obtain ⟨o,e,c,d⟩:=st;exact ⟨o,e,fun v z=>by rw [d] at z;cases z⟩
 keep:=fun i h h' st k=>st.at fun o e=>k it (by simp) o e
 item:=by
  intro X hP hw hK hc i pins s σ H E I hf st hg;subst hP hw hK;obtain ⟨xs,x,hq,hx⟩:=hg;obtain ⟨its,rv,p,hz⟩:=I.list hq;obtain ⟨u,hu,ru⟩:=rv.get hx;obtain ⟨f0,f1,f2,f3,f4,f5⟩:=hf it (by simp);refine wpAny_pyNext_list_item st p.isList (x:=u) (by simpa using hu) fun h' st' sb=>?_;have I1:Inv X pins σ H { s with heap:=h' }:=I.turned (t':=s.toks) (fun b o hb e=>(sb.2 b hb).trans e) f0 f1 f3 f4 f5;obtain ⟨o,e,c,d⟩:=id st';exact ⟨u,rfl,AE (s:={ s with heap:=h' }) e c d (by decide) ⟨x,H,I1,ru,⟨rfl,fun ys hy=>by rw [I.list_inj hy hq];exact hx⟩,st',fun b hb=>(hf b hb).1⟩⟩
 done:=by
  intro X hP hw hK hc i pins s σ H E I hf st hg;subst hP hw hK;obtain ⟨xs,hq,hx⟩:=hg;obtain ⟨its,rv,p,hz⟩:=I.list hq;obtain ⟨f0,f1,f2,f3,f4,f5⟩:=hf it (by simp);have hl:=rv.length;exact wpAny_pyNext_list_end (I.ok.hd hc) st p.isList (by simp;omega) fun h' eb=>⟨rfl,I.turned (t':=s.toks) (fun b o hb e=>eb b o hb e) f0 f1 f3 f4 f5⟩
 self:=fun _ _ _ _ _ st h=>wpAny_pyIter_listiter st h
theorem A1 {P:Program}{w:World}{K:Frag}{tg:Expr}(a it:Addr):Turn P w K tg (Nb K a) [it] it (fun i h=>h.IsTupleIter it a i) where
 mem:=by simp
 obj:=fun i h st b hb=>by
  have e:b=it:=by simpa using hb
  subst e;obtain ⟨o,e,c,d⟩:=st;exact ⟨o,e,fun v z=>by rw [d] at z;cases z⟩
 keep:=fun i h h' st k=>st.at fun o e=>k it (by simp) o e
 item:=by
  intro X hP hw hK hc i pins s σ H E I hf st hg;subst hP hw hK;obtain ⟨xs,x,hq,hx⟩:=hg;obtain ⟨its,rv,p,hz⟩:=I.tuple hq;obtain ⟨u,hu,ru⟩:=rv.get hx;obtain ⟨f0,f1,f2,f3,f4,f5⟩:=hf it (by simp);refine wpAny_pyNext_tuple_item st (show s.heap.IsTuple a its.toArray from p) (x:=u) (by simpa using hu) fun h' st' sb=>?_;have I1:Inv X pins σ H { s with heap:=h' }:=I.turned (t':=s.toks) (fun b o hb e=>(sb.2 b hb).trans e) f0 f1 f3 f4 f5;obtain ⟨o,e,c,d⟩:=id st';exact ⟨u,rfl,AE (s:={ s with heap:=h' }) e c d (by decide) ⟨x,H,I1,ru,⟨rfl,fun ys hy=>by rw [I.tuple_inj hy hq];exact hx⟩,st',fun b hb=>(hf b hb).1⟩⟩
 done:=by
  intro X hP hw hK hc i pins s σ H E I hf st hg;subst hP hw hK;obtain ⟨xs,hq,hx⟩:=hg;obtain ⟨its,rv,p,hz⟩:=I.tuple hq;obtain ⟨f0,f1,f2,f3,f4,f5⟩:=hf it (by simp);have hl:=rv.length;exact wpAny_pyNext_tuple_end (I.ok.hd hc) st (show s.heap.IsTuple a its.toArray from p) (by simp;omega) fun h' eb=>⟨rfl,I.turned (t':=s.toks) (fun b o hb e=>eb b o hb e) f0 f1 f3 f4 f5⟩
 self:=fun _ _ _ _ _ st h=>wpAny_pyIter_tupleiter st h
theorem A2 {P:Program}{w:World}{K:Frag}{tg:Expr}(it:Addr)(lo:Int)(n:Nat):Turn P w K tg (Lx lo n) [it] it (fun i h=>IsRangeIter h it (lo+(i:Nat)*1) ((n:Int)-(i:Nat)) 1) where
 mem:=by simp
 obj:=fun i h st b hb=>by
  have e:b=it:=by simpa using hb
  subst e;exact ⟨_,st,fun v z=>by
   have z':Data.fields _=Data.cell v:=z;cases z'⟩
 keep:=fun i h h' st k=>k it (by simp) _ st
 item:=by
  intro X hP hw hK hc i pins s σ H E I hf st hg;subst hP hw hK;obtain ⟨f0,f1,f2,f3,f4,f5⟩:=hf it (by simp);have W:=Walks.range (prog:=X.prog) (w:=X.w) (I.ok.hd hc) it lo 1 n;refine W.item i s _ _ hg st fun v h' tk hv st' kk=>?_;obtain ⟨t,rfl⟩:=hv;have I1:Inv X pins σ H { s with heap:=h',toks:=tk }:=I.turned (fun b o hb e=>kk b o (by simpa using hb) e) f0 f1 f3 f4 f5;refine ⟨_,rfl,AE (s:={ s with heap:=h',toks:=tk }) (n := "range_iterator") st' rfl rfl (by decide) ⟨.int (lo+i),H,I1,⟨t,?_⟩,⟨rfl,rfl⟩,st',fun b hb=>(hf b hb).1⟩⟩;rw [bh]
 done:=by
  intro X hP hw hK hc i pins s σ H E I hf st hg;subst hP hw hK;obtain ⟨f0,f1,f2,f3,f4,f5⟩:=hf it (by simp);exact wpAny_pyNext_range_end (I.ok.hd hc) st (by have:n<=i:=hg;omega) fun h' eb=>⟨rfl,I.turned (t':=s.toks) (fun b o hb e=>eb b o hb e) f0 f1 f3 f4 f5⟩
 self:=fun _ _ _ _ _ st h=>wpAny_pyIter_rangeiter st h
end L2
namespace L2
open PySem PySem.Spec PyProof.Rows
section
variable {X:Cx}{tg:Expr}
theorem Aj {pins:List (Addr×Obj)}{σ:St}{H:Hp}{s:Shared}{R:It->Hp->Prop}{E:Value->Shared->Prop}{lo hi:Int}{t u v:Tok}{tk:Nat}(I:Inv X pins σ H s)(h1 : -(2^62)<=lo)(h2:lo<2^62)(h3 : -(2^62)<=hi)(h4:hi<2^62)
  (q:R (Lx lo (hi-lo).toNat) H):wpAny (model X.prog X.w) X.A (pyIter (.ref s.heap.objs.size)) (M8 X pins σ tg R) E { s with heap:=s.heap.push { cls:=.type "range",data:=.fields #[.int lo t,.int hi u,.int 1 v] },toks:=tk }:=by
 refine wpAny_pyIter_range (IsRange.new ..) (small_one h1 h2 h3 h4) ?_;have I1:Inv X pins σ H { s with heap:=s.heap.push { cls:=.type "range",data:=.fields #[.int lo t,.int hi u,.int 1 v] },toks:=tk }:=I.kept fun b o e=>Heap.get?_push_of_some _ e;refine ⟨(s.heap.push { cls:=.type "range",data:=.fields #[.int lo t,.int hi u,.int 1 v] }).objs.size,[(s.heap.push { cls:=.type "range",data:=.fields #[.int lo t,.int hi u,.int 1 v] }).objs.size],_,_,H,rfl,
  I1.kept (t':=tk) fun b o e=>Heap.get?_push_of_some _ e,A2 _ lo (hi-lo).toNat,?_,fun b hb=>?_,q⟩
 ·have e1:lo+((0:Nat):Int)*1=lo:=by simp
  have e2:(((hi-lo).toNat:Nat):Int)-((0:Nat):Int)=Builtin.Range.rangeSize lo hi 1:=by rw [rangeSize_one];split <;> omega
  show IsRangeIter _ _ (lo+((0:Nat):Int)*1) ((((hi-lo).toNat:Nat):Int)-((0:Nat):Int)) 1;rw [e1,e2];exact Heap.get?_push_size _ rfl
 ·have e:b=(s.heap.push { cls:=.type "range",data:=.fields #[.int lo t,.int hi u,.int 1 v] }).objs.size:=by simpa using hb
  subst e;exact I1.fpOk (am _) (I1.hok.fresh (am _))
def K2 (ta:TA):TI:=fun σ H R=>ta σ H fun vs H1=>∃ j:Int,vs=[.int j] /\ -(2^62)<=j/\j<2^62/\R (Lx 0 j.toNat) H1
def K1 (ta:TA):TI:=fun σ H R=>ta σ H fun vs H1=>∃ i j:Int,vs=[.int i,.int j]/\(-(2^62)<=i/\i<2^62 /\ -(2^62)<=j/\j<2^62)/\R (Lx i (j-i).toNat) H1
theorem Db {a:Expr} {ta:TA} {p pos:Pos} (hg:Gl X "range") (hm:X.mg "range" = none) (ha:PA X [a] ta) (hs:starEach [a] X.env=[(false,eval a X.env)]:=by rfl):PI X tg (.Call (.Name "range" p) [a] [] pos) (K2 ta):=by
 intro pins s σ H R I h;refine Call_ (wo I hg hm boot_range (PyProof.Rows.callWith_type1 (tv (ha pos pins s σ H _ I h) fun us s1 ⟨vs,H1,I1,r1,q1⟩=>?_) hs rfl));obtain ⟨j,e,q1,q2,q⟩:=q1;subst e;cases r1 with
 | cons r rr =>
  cases rr;obtain ⟨t,rfl⟩:=r;exact call_range_1 (Aj I1 (by omega) (by omega) q1 q2 (by simpa using q))
theorem Da {a b:Expr} {ta:TA} {p pos:Pos} (hg:Gl X "range") (hm:X.mg "range" = none) (ha:PA X [a,b] ta) (hs:starEach [a,b] X.env=[(false,eval a X.env),(false,eval b X.env)]:=by rfl) (hs2:starEach [b] X.env=[(false,eval b X.env)]:=by rfl) :
  PI X tg (.Call (.Name "range" p) [a,b] [] pos) (K1 ta):=by
 intro pins s σ H R I h;refine Call_ (wo I hg hm boot_range (PyProof.Rows.callWith_type1 (tv (ha pos pins s σ H _ I h) fun us s1 ⟨vs,H1,I1,r1,q1⟩=>?_) (by rw [hs,hs2]) (by rw [hs2];rfl)));obtain ⟨i,j,e,⟨q1,q2,q3,q4⟩,q⟩:=q1;subst e;cases r1 with
 | cons r rr =>
  cases rr with
  | cons r' rr =>
   cases rr;obtain ⟨t,rfl⟩:=r;obtain ⟨t',rfl⟩:=r';exact call_range_2 (Aj I1 q1 q2 q3 q4 q)
def L8 (wi:TI)(g:TG)(tb:TS):TS:=fun D σ H=>wi σ H fun J H1=>∃ W:Nat->Nat->St->Hp->Prop,(∃ m,W 0 m σ H1)/\∀ i m σ H,W i m σ H ->
 (J.stop i H/\D.nx σ H)\/(J.go i H/\∃ N:St->Hp->Prop,(∀ σ' H',N σ' H'->∃ m',m'<m/\W (i+1) m' σ' H')/\∀ x H',J.yld i H x H'->g x σ H' fun σ2 H2=>tb { D with nx:=N,ct:=N,bk:=D.nx } σ2 H2)
def xz (fp:List Addr)(h:Heap):List (Addr×Obj):=fp.filterMap fun b=>(h.get? b).map fun o=>(b,o)
theorem uC {fp:List Addr}{h:Heap}{b:Addr}{o:Obj}(hb:b∈fp)(e:h.get? b=some o):(b,o)∈xz fp h:=iq.mpr ⟨b,hb,by rw [e];rfl⟩
theorem Df {fp:List Addr}{h:Heap}{p:Addr×Obj}(hp:p∈xz fp h):p.1∈fp/\h.get? p.1=some p.2:=by
 obtain ⟨b,hb,e⟩:=iq.mp hp;cases q:h.get? b with
 | none=>rw [q] at e;cases e
 | some o =>
  rw [q] at e;have e':(b,o)=p:=Option.some.inj e;subst e';exact ⟨hb,q⟩
theorem Inv.pinned {pins:List (Addr×Obj)}{σ:St}{H:Hp}{s:Shared}{fp:List Addr}(I:Inv X pins σ H s)(hf:∀ b∈fp,vi X pins H b)(ho:∀ b∈fp,∃ o,s.heap.get? b=some o/\∀ v,o.data ≠ .cell v):Inv X (pins++xz fp s.heap) σ H s :=
 I.pins_of fun p hp=>(cu.mp hp).elim (fun z=>I.pin p (aX _ z)) fun z=>by
  obtain ⟨hb,e⟩:=Df z;obtain ⟨f0,f1,f2,_⟩:=hf p.1 hb;obtain ⟨o,e',d⟩:=ho p.1 hb;rw [e] at e';cases e';exact ⟨e,f0,f1,f2,d⟩
theorem Inv.unpinned {pins pl:List (Addr×Obj)}{σ:St}{H:Hp}{s:Shared}(I:Inv X (pins++pl) σ H s):Inv X pins σ H s:=I.pins_of fun p hp=>I.pin p (aX _ (g6 _ hp))
theorem Jb {iter:Expr}{body:List Stmt}{wi:TI}{g:TG}{tb:TS}{pos:Pos}(hp:PassesOwn (model X.prog X.w) X.A X.env X.xe)(hc:X.calm=true)(hi:PI X tg iter wi)(hg:PG X tg g)(hb:PSs X body tb)
  (hs:∀ x,foldedSetIterable iter X.env x=pure x:=by intro _;rfl):PS X (.For tg iter body [] pos) (L8 wi g tb):=by
 intro pins s σ H D I h;refine wpAny_For (tv (hi pins s σ H _ I h) fun v s1 h1=>tv h1 fun itv s2 h2=>?_) hs;obtain ⟨it,fp,tn,J,H2,e,I2,T,st2,f2,W,⟨m0,w0⟩,turn⟩:=h2;subst e
 -- what stays true of the iterator's objects through the loop
 have stat:∀ {H':Hp},(∀ b∈fp,H' b=none)->∀ b∈fp,vi X pins H' b:=fun hn b hb=>⟨hn b hb,(f2 b hb).2⟩;refine codeAny_forLoop_any (fun n s'=>∃ i σ' H',Inv X pins σ' H' s'/\tn i s'.heap/\(∀ b∈fp,H' b=none)/\W i n σ' H') ?_ m0 ⟨0,σ,H2,I2,st2,fun b hb=>(f2 b hb).1,w0⟩;rintro n s3 ⟨i,σ3,H3,I3,st3,fr3,w3⟩;rcases turn i n σ3 H3 w3 with ⟨stop,qn⟩ | ⟨go,N,hN,step⟩
 ·refine wpAny_passesOwn hp (tv (T.done X rfl rfl rfl hc i pins s3 σ3 H3 X.xe I3 (stat fr3) st3 stop) fun r s4 ⟨hr,I4⟩=>?_);subst hr;exact wpAny_execs_nil ⟨σ3,H3,I4,qn⟩
 ·refine wpAny_passesOwn hp (tv (T.item X rfl rfl rfl hc i pins s3 σ3 H3 X.xe I3 (stat fr3) st3 go) fun r s4 ⟨u,hr,h4⟩=>?_);subst hr;refine wpAny_passesOwn hp (tv h4 fun _ s5 ⟨x,H5,I5,r5,y5,st5,fr5⟩=>?_);have I5':=I5.pinned (stat fr5) (T.obj _ _ st5);refine wpAny_passesOwn hp (tv (hg _ s5 σ3 H5 x u _ I5' r5 (step x H5 y5)) fun _ s6 ⟨σ6,H6,I6,q6⟩=>?_);refine wpAny_passesOwn hp (tv (hb _ s6 σ6 H6 _ I6 q6) fun f s7 q7=>?_);have again:∀ {σ7:St} {H7:Hp},Inv X (pins++xz fp s5.heap) σ7 H7 s7->N σ7 H7->∃ m,m<n/\∃ i σ' H',Inv X pins σ' H' s7/\tn i s7.heap/\(∀ b∈fp,H' b=none)/\W i m σ' H':=fun {σ7 H7} I7 n7=>by
   obtain ⟨m',hm,w7⟩:=hN σ7 H7 n7;refine ⟨m',hm,i+1,σ7,H7,I7.unpinned,T.keep _ _ _ st5 fun b hb o e=>(I7.pin (b,o) (aX _ (aX _ (uC hb e)))).1,fun b hb=>?_,w7⟩;obtain ⟨o,e,d⟩:=T.obj _ _ st5 b hb;exact (I7.pin (b,o) (aX _ (aX _ (uC hb e)))).2.1
  cases f with
  | next=>obtain ⟨σ7,H7,I7,n7⟩:=q7;exact again I7 n7
  | cont=>obtain ⟨σ7,H7,I7,n7⟩:=q7;exact again I7 n7
  | brk=>obtain ⟨σ7,H7,I7,q7⟩:=q7;exact ⟨σ7,H7,I7.unpinned,q7⟩
  | ret v=>obtain ⟨x7,σ7,H7,I7,r7,q7⟩:=q7;exact ⟨x7,σ7,H7,I7.unpinned,r7,q7⟩
end
end L2
namespace L2
open PySem PySem.Spec PyProof.Rows
abbrev R2:=V->V->Hp->VK->Prop
def OpR (X:Cx)(f:Value->Value->Sem Value)(r:R2):Prop :=
 ∀ (pins:List (Addr×Obj)) (s:Shared) (σ:St) (H:Hp) (x y:V) (v u:Value) (Q:VK),Inv X pins σ H s->RelV x v->RelV y u->r x y H Q ->
  wpAny (model X.prog X.w) X.A (f v u) (EP X pins σ Q) X.xe s
def ML (X:Cx)(f:Value->Sem Value)(r:V->Hp->VK->Prop):Prop :=
 ∀ (pins:List (Addr×Obj)) (s:Shared) (σ:St) (H:Hp) (x:V) (v:Value) (Q:VK),Inv X pins σ H s->RelV x v->r x H Q ->
  wpAny (model X.prog X.w) X.A (f v) (EP X pins σ Q) X.xe s
def CallR (X:Cx)(f:Value)(r:List V->Hp->VK->Prop):Prop :=
 ∀ (pins:List (Addr×Obj)) (s:Shared) (σ:St) (H:Hp) (xs:List V) (us:List Value) (Q:VK),Inv X pins σ H s->Vals xs us->r xs H Q ->
  wpAny (model X.prog X.w) X.A (call f us) (EP X pins σ Q) X.xe s
def MM (X:Cx)(r:V->Hp->(Bool->Hp->Prop)->Prop):Prop :=
 ∀ (pins:List (Addr×Obj)) (s:Shared) (σ:St) (H:Hp) (x:V) (v:Value) (Q:Bool->Hp->Prop),Inv X pins σ H s->RelV x v->r x H Q ->
  wpAny (model X.prog X.w) X.A (truthy v) (TP X pins σ Q) X.xe s
def Kl (r:R2)(ta tb:TE):TE:=fun σ H Q=>ta σ H fun x H1=>tb σ H1 fun y H2=>r x y H2 Q
def Ng (r:V->Hp->VK->Prop)(ta:TE):TE:=fun σ H Q=>ta σ H fun x H1=>r x H1 Q
def rI (C:Int->Int->Prop)(g:Int->Int->V):R2:=fun x y H Q=>∃ i j,x = .int i/\y = .int j/\C i j/\Q (g i j) H
def Ef (g:Int->Int->V):R2:=fun x y H Q=>∃ i j,x = .int i/\y = .int j/\Q (g i j) H
def rU (g:Int->V):V->Hp->VK->Prop:=fun x H Q=>∃ i,x = .int i/\Q (g i) H
section
variable {X:Cx}{a b c:Expr}{ta tb tc:TE}{pos:Pos}
theorem J0 (ha:PE X a ta)(hb:PE X b tb){pins:List (Addr×Obj)}{s:Shared}{σ:St}{H:Hp}{R:V->V->Hp->Prop}(I:Inv X pins σ H s)
  (h:ta σ H fun x H1=>tb σ H1 fun y H2=>R x y H2) {Q:Value->Shared->Prop} {f:Value->Value->Sem Value}
  (hf:∀ v u s2 x y H2,Inv X pins σ H2 s2->RelV x v->RelV y u->R x y H2->wpAny (model X.prog X.w) X.A (f v u) Q X.xe s2) :
  wpAny (model X.prog X.w) X.A (eval a X.env) (fun v s₁=>wpAny (model X.prog X.w) X.A (eval b X.env) (fun u s₂=>wpAny (model X.prog X.w) X.A (f v u) Q X.xe s₂) X.xe s₁) X.xe s:=by
 refine tv (ha pins s σ H _ I h) fun v s1 ⟨x,H1,I1,r1,q1⟩=>?_;refine tv (hb pins s1 σ H1 _ I1 q1) fun u s2 ⟨y,H2,I2,r2,q2⟩=>?_;exact hf v u s2 x y H2 I2 r1 r2 q2
theorem tJ {op:Operator}{r:R2}(ho:OpR X (binaryOp op) r)(ha:PE X a ta)(hb:PE X b tb):PE X (.BinOp a op b pos) (Kl r ta tb):=by
 intro pins s σ H Q I h;exact wpAny_BinOp (J0 ha hb I h fun v u s2 x y H2 I2 rx ry q=>ho pins s2 σ H2 x y v u Q I2 rx ry q)
theorem HE {op:UnaryOp}{r:V->Hp->VK->Prop}(ho:ML X (unaryOp op) r)(ha:PE X a ta):PE X (.UnaryOp op a pos) (Ng r ta):=by
 intro pins s σ H Q I h;exact UnaryOp_ (tv (ha pins s σ H _ I h) fun v s1 ⟨x,H1,I1,r1,q1⟩=>ho pins s1 σ H1 x v Q I1 r1 q1)
theorem HM {f:Value->Value->Sem Value}{C:Int->Int->Prop}{g:Int->Int->Int}
  (rule:∀ (i j:Int) (t u:Tok) (s:Shared) (Q:Value->Shared->Prop) (E:Value->Shared->Prop),C i j->Q (.int (g i j) s.toks) { s with toks:=s.toks+1 }->wpAny (model X.prog X.w) X.A (f (.int i t) (.int j u)) Q E s) :
  OpR X f (rI C fun i j=>.int (g i j)):=by
 intro pins s σ H x y v u Q I rx ry h;obtain ⟨i,j,rfl,rfl,hc,q⟩:=h;obtain ⟨t,rfl⟩:=rx;obtain ⟨t',rfl⟩:=ry;exact rule i j t t' s _ _ hc ⟨.int (g i j),H,I.tok _,⟨_,rfl⟩,q⟩
theorem Gq {f:Value->Value->Sem Value}{g:Int->Int->Int}
  (rule:∀ (i j:Int) (t u:Tok) (s:Shared) (Q:Value->Shared->Prop) (E:Value->Shared->Prop),Q (.int (g i j) s.toks) { s with toks:=s.toks+1 }->wpAny (model X.prog X.w) X.A (f (.int i t) (.int j u)) Q E s) :
  OpR X f (Ef fun i j=>.int (g i j)):=by
 intro pins s σ H x y v u Q I rx ry h;obtain ⟨i,j,rfl,rfl,q⟩:=h;obtain ⟨t,rfl⟩:=rx;obtain ⟨t',rfl⟩:=ry;exact rule i j t t' s _ _ ⟨.int (g i j),H,I.tok _,⟨_,rfl⟩,q⟩
theorem Gr {f:Value->Value->Sem Value}{g:Int->Int->Bool}
  (rule:∀ (i j:Int) (t u:Tok) (s:Shared) (Q:Value->Shared->Prop) (E:Value->Shared->Prop),Q (.bool (g i j)) s->wpAny (model X.prog X.w) X.A (f (.int i t) (.int j u)) Q E s) :
  OpR X f (Ef fun i j=>.bl (g i j)):=by
 intro pins s σ H x y v u Q I rx ry h;obtain ⟨i,j,rfl,rfl,q⟩:=h;obtain ⟨t,rfl⟩:=rx;obtain ⟨t',rfl⟩:=ry;exact rule i j t t' s _ _ ⟨.bl (g i j),H,I,rfl,q⟩
def MR (i j:Int):Prop:=0<j/\j<1073741824
def FQ (i j:Int):Prop:=0<=j/\j<=1000000/\i.natAbs<2^64
def CMul (i j:Int):Prop:=(-(2^64)<i/\i<2^64)\/(-(2^64)<j/\j<2^64)
theorem CMul.ok {i j:Int}(h:CMul i j):IntMulOk i j:=by
 rcases h with ⟨h1,h2⟩ | ⟨h1,h2⟩
 ·exact .of_left (intBits_le_64 h1 h2)
 ·exact .of_right (intBits_le_64 h1 h2)
theorem uB:OpR X (binaryOp .Add) (Ef fun i j=>.int (i+j)):=Gq fun _ _ _ _ _ _ _ q=>add_int q
theorem Jm:OpR X (binaryOp .Sub) (Ef fun i j=>.int (i-j)):=Gq fun _ _ _ _ _ _ _ q=>sub_int q
theorem Bm:OpR X (binaryOp .Mult) (rI CMul fun i j=>.int (i*j)):=HM fun _ _ _ _ _ _ _ hc q=>mul_int q hc.ok
theorem Cp:OpR X (binaryOp .FloorDiv) (rI MR fun i j=>.int (i / j)):=HM fun i j _ _ _ _ _ hc q=>by
 have h1:(0:Int)<j:=hc.1;have h2:j<1073741824:=hc.2;exact floordiv_int (by omega) (by rw [ce i (by omega)];exact q) (.inl (PyProof.noPylong_small (by omega)))
theorem vG:OpR X (binaryOp .Mod) (rI (fun _ j=>0<j) fun i j=>.int (i%j)):=HM fun i j _ _ _ _ _ hc q=>by
 have h1:(0:Int)<j:=hc;exact mod_int' (by omega) (by rw [dh i (by omega)];exact q)
theorem Go:OpR X (binaryOp .Mod) (rI (fun _ j=>j≠0) fun i j=>.int (i.fmod j)):=HM fun _ _ _ _ _ _ _ hc q=>mod_int' hc q
theorem EJ:OpR X (binaryOp .Pow) (rI FQ fun i j=>.int (i^j.toNat)):=HM fun _ _ _ _ _ _ _ hc q=>pow_int_small hc.1 hc.2.1 hc.2.2 q
theorem Jn:OpR X (binaryOp .LShift) (rI FQ fun i j=>.int (i*2^j.toNat)):=HM fun _ _ _ _ _ _ _ hc q=>lshift_int_small hc.1 hc.2.1 hc.2.2 q
theorem GU:OpR X (inplaceOp .Add) (Ef fun i j=>.int (i+j)):=Gq fun _ _ _ _ _ _ _ q=>iadd_int q
theorem GT:OpR X (inplaceOp .Sub) (Ef fun i j=>.int (i-j)):=Gq fun _ _ _ _ _ _ _ q=>isub_int q
theorem Nf {f:Value->Sem Value}{g:Int->Int}
  (rule:∀ (i:Int) (t:Tok) (s:Shared) (Q:Value->Shared->Prop) (E:Value->Shared->Prop),Q (.int (g i) s.toks) { s with toks:=s.toks+1 }->wpAny (model X.prog X.w) X.A (f (.int i t)) Q E s) :
  ML X f (rU fun i=>.int (g i)):=by
 intro pins s σ H x v Q I rx h;obtain ⟨i,rfl,q⟩:=h;obtain ⟨t,rfl⟩:=rx;exact rule i t s _ _ ⟨.int (g i),H,I.tok _,⟨_,rfl⟩,q⟩
theorem DN:ML X (unaryOp .USub) (rU fun i=>.int (-i)):=Nf fun _ _ _ _ _ q=>neg_int q
end
def Ku:V->V->Bool
 | .non,.non=>true | .non,.int _=>true | .int _,.non=>true | .non,.bl _=>true | .bl _,.non=>true | .non,.str _=>true | .str _,.non=>true
 | .int _,.int _=>true | .bl _,.bl _=>true | .str _,.str _=>true | .byt _,.byt _=>true
 | .int _,.str _=>true | .str _,.int _=>true | .bl _,.str _=>true | .str _,.bl _=>true
 | _,_=>false
def Nn:R2:=fun x y H Q=>Ku x y=true/\Q (.bl (decide (x=y))) H
def Nm:R2:=fun x y H Q=>Ku x y=true/\Q (.bl (!decide (x=y))) H
theorem CN {i j:Int}:decide (V.int i=V.int j)=(i == j):=by
 rw [cN];simp
theorem Ff {i j:Bool}:decide (V.bl i=V.bl j)=(i == j):=by
 rw [cN];simp
theorem CM {i j:Str}:decide (V.str i=V.str j)=(i == j):=by
 rw [cN];simp
theorem CO {i j:Array UInt8}:decide (V.byt i=V.byt j)=(i.toList == j.toList):=by
 rw [cN];cases i;cases j;simp
section
variable {X:Cx}{a b c:Expr}{ta tb tc:TE}{pos:Pos}
theorem sX {pins:List (Addr×Obj)}{σ:St}{H:Hp}{s:Shared}{Q:VK}{k k':Bool}(I:Inv X pins σ H s)(q:Q (.bl k) H)(e:k=k'):EP X pins σ Q (.bool k') s:=by
 subst e;exact ⟨.bl k,H,I,rfl,q⟩
theorem HL:OpR X (compareOp .Eq) Nn:=by
 intro pins s σ H x y v u Q I rx ry h;obtain ⟨hs,q⟩:=h;cases x with
 | non =>
  cases rx;cases y with
  | non=>cases ry;exact PySem.EqNone.eq_none_none (sX I q (by simp))
  | bl j=>cases ry;exact PySem.EqNone.eq_none_bool (sX I q (by simp))
  | int j=>obtain ⟨t',rfl⟩:=ry;exact PySem.EqNone.eq_none_int (sX I q (by simp))
  | str j=>obtain ⟨t',rfl⟩:=ry;exact PySem.EqNone.eq_none_str (sX I q (by simp))
  | _=>exact absurd (show false=true from hs) aF
 | bl i =>
  cases rx;cases y with
  | non=>cases ry;exact PySem.EqNone.eq_bool_none (sX I q (by simp))
  | bl j=>cases ry;exact eq_bool (sX I q Ff)
  | str j=>obtain ⟨t',rfl⟩:=ry;exact PySem.EqMixed.eq_bool_str (sX I q (by simp))
  | _=>exact absurd (show false=true from hs) aF
 | int i =>
  obtain ⟨t,rfl⟩:=rx;cases y with
  | non=>cases ry;exact PySem.EqNone.eq_int_none (sX I q (by simp))
  | int j=>obtain ⟨t',rfl⟩:=ry;exact eq_int (sX I q CN)
  | str j=>obtain ⟨t',rfl⟩:=ry;exact PySem.EqMixed.eq_int_str (sX I q (by simp))
  | _=>exact absurd (show false=true from hs) aF
 | str i =>
  obtain ⟨t,rfl⟩:=rx;cases y with
  | non=>cases ry;exact PySem.EqNone.eq_str_none (sX I q (by simp))
  | bl j=>cases ry;exact PySem.EqMixed.eq_str_bool (sX I q (by simp))
  | int j=>obtain ⟨t',rfl⟩:=ry;exact PySem.EqMixed.eq_str_int (sX I q (by simp))
  | str j=>obtain ⟨t',rfl⟩:=ry;exact eq_str (sX I q CM)
  | _=>exact absurd (show false=true from hs) aF
 | byt i =>
  obtain ⟨t,rfl⟩:=rx;cases y with
  | byt j=>obtain ⟨t',rfl⟩:=ry;exact PySem.W.eq_bytes (sX I q CO)
  | _=>exact absurd (show false=true from hs) aF
 | _=>cases y <;> exact absurd (show false=true from hs) aF
theorem KS:OpR X (compareOp .NotEq) Nm:=by
 intro pins s σ H x y v u Q I rx ry h;obtain ⟨hs,q⟩:=h;cases x with
 | non =>
  cases rx;cases y with
  | non=>cases ry;exact PySem.EqNone.ne_none_none (sX I q (by simp))
  | bl j=>cases ry;exact PySem.EqNone.ne_none_bool (sX I q (by simp))
  | int j=>obtain ⟨t',rfl⟩:=ry;exact PySem.EqNone.ne_none_int (sX I q (by simp))
  | str j=>obtain ⟨t',rfl⟩:=ry;exact PySem.EqNone.ne_none_str (sX I q (by simp))
  | _=>exact absurd (show false=true from hs) aF
 | bl i =>
  cases rx;cases y with
  | non=>cases ry;exact PySem.EqNone.ne_bool_none (sX I q (by simp))
  | bl j=>cases ry;exact ne_bool (sX I q (congrArg not Ff))
  | str j=>obtain ⟨t',rfl⟩:=ry;exact PySem.EqMixed.ne_bool_str (sX I q (by simp))
  | _=>exact absurd (show false=true from hs) aF
 | int i =>
  obtain ⟨t,rfl⟩:=rx;cases y with
  | non=>cases ry;exact PySem.EqNone.ne_int_none (sX I q (by simp))
  | int j=>obtain ⟨t',rfl⟩:=ry;exact ne_int (sX I q (congrArg not CN))
  | str j=>obtain ⟨t',rfl⟩:=ry;exact PySem.EqMixed.ne_int_str (sX I q (by simp))
  | _=>exact absurd (show false=true from hs) aF
 | str i =>
  obtain ⟨t,rfl⟩:=rx;cases y with
  | non=>cases ry;exact PySem.EqNone.ne_str_none (sX I q (by simp))
  | bl j=>cases ry;exact PySem.EqMixed.ne_str_bool (sX I q (by simp))
  | int j=>obtain ⟨t',rfl⟩:=ry;exact PySem.EqMixed.ne_str_int (sX I q (by simp))
  | str j=>obtain ⟨t',rfl⟩:=ry;exact ne_str (sX I q (congrArg not CM))
  | _=>exact absurd (show false=true from hs) aF
 | byt i =>
  obtain ⟨t,rfl⟩:=rx;cases y with
  | byt j=>obtain ⟨t',rfl⟩:=ry;exact PySem.W.ne_bytes (sX I q (congrArg not CO))
  | _=>exact absurd (show false=true from hs) aF
 | _=>cases y <;> exact absurd (show false=true from hs) aF
theorem HI:OpR X (compareOp .Lt) (Ef fun i j=>.bl (decide (i<j))):=Gr fun _ _ _ _ _ _ _ q=>lt_int q
theorem KT:OpR X (compareOp .LtE) (Ef fun i j=>.bl (decide (i<=j))):=Gr fun _ _ _ _ _ _ _ q=>le_int q
theorem HJ:OpR X (compareOp .Gt) (Ef fun i j=>.bl (decide (j<i))):=Gr fun _ _ _ _ _ _ _ q=>gt_int q
theorem HK:OpR X (compareOp .GtE) (Ef fun i j=>.bl (decide (j<=i))):=Gr fun _ _ _ _ _ _ _ q=>ge_int q
theorem Jp:OpR X (compareOp .Is) (fun x y H Q=>y = .non/\Q (.bl (decide (x = .non))) H):=by
 intro pins s σ H x y v u Q I rx ry h;obtain ⟨rfl,q⟩:=h;cases ry;refine is_none_gen (sX I q ?_);cases x <;> first
  | (cases rx;rfl)
  | (obtain ⟨t,rfl⟩:=rx;rfl)
theorem Gm:OpR X (compareOp .IsNot) (fun x y H Q=>y = .non/\Q (.bl (!decide (x = .non))) H):=by
 intro pins s σ H x y v u Q I rx ry h;obtain ⟨rfl,q⟩:=h;cases ry;refine isnot_none_gen (sX I q ?_);cases x <;> first
  | (cases rx;rfl)
  | (obtain ⟨t,rfl⟩:=rx;rfl)
theorem yZ (b:Expr){op:CmpOp}(h:op ≠ .In:=by decide)(h2:op ≠ .NotIn:=by decide):behindInMarks op b=false:=by
 have e1:(op == CmpOp.In)=false:=by cases op <;> first | rfl | exact absurd rfl h
 have e2:(op == CmpOp.NotIn)=false:=by cases op <;> first | rfl | exact absurd rfl h2
 cases b <;> simp [behindInMarks,e1,e2]
theorem Gi {op:CmpOp}{r:R2}(ho:OpR X (compareOp op) r)(ha:PE X a ta)(hb:PE X b tb)(hm:behindInMarks op b=false):PE X (.Compare a [op] [b] pos) (Kl r ta tb):=by
 intro pins s σ H Q I h;exact wpAny_Compare1 (J0 ha hb I h fun v u s2 x y H2 I2 rx ry q=>ho pins s2 σ H2 x y v u Q I2 rx ry q) hm
def DR (t:TE):TT:=fun σ H Q=>t σ H fun x H'=>∃ k,x = .bl k/\Q k H'
theorem vU {op:CmpOp}{r:R2}(ho:OpR X (compareOp op) r)(ha:PE X a ta)(hb:PE X b tb)(hm:behindInMarks op b=false):PT X (.Compare a [op] [b] pos) (DR (Kl r ta tb)):=by
 intro pins s σ H Q I h;refine wpAny_isTrue_Compare1 (tv (ha pins s σ H _ I h) fun v s1 ⟨x,H1,I1,r1,q1⟩=>tv (hb pins s1 σ H1 _ I1 q1) fun u s2 ⟨y,H2,I2,r2,q2⟩ =>
  tv (ho pins s2 σ H2 x y v u _ I2 r1 r2 q2) fun c s3 ⟨z,H3,I3,r3,k,e,q3⟩=>?_) hm
 subst e;cases r3;exact wpAny_truthy_bool ⟨H3,I3,q3⟩
def DS (r r':R2)(ta tb tc:TE):TE:=fun σ H Q=>ta σ H fun x H1=>tb σ H1 fun y H2=>r x y H2 fun z H3=>∃ k,z = .bl k /\
 (if k=true then tc σ H3 fun w' H4=>r' y w' H4 Q else Q (.bl false) H3)
theorem Ey {op op':CmpOp}{r r':R2}(ho:OpR X (compareOp op) r)(ho':OpR X (compareOp op') r')(ha:PE X a ta)(hb:PE X b tb)(hc:PE X c tc)
  (hm:lastMarks [op,op'] [b,c]=false:=by with_unfolding_all rfl):PE X (.Compare a [op,op'] [b,c] pos) (DS r r' ta tb tc):=by
 intro pins s σ H Q I h;refine Compare_chain (tv (ha pins s σ H _ I h) fun v s1 ⟨x,H1,I1,r1,q1⟩=>chain_link (tv (hb pins s1 σ H1 _ I1 q1) fun u s2 ⟨y,H2,I2,r2,q2⟩ =>
  tv (ho pins s2 σ H2 x y v u _ I2 r1 r2 q2) fun d s3 ⟨z,H3,I3,r3,k,e,q3⟩=>?_)) hm
 subst e;cases r3;refine wpAny_truthy_bool ?_;cases k with
 | false=>exact ite_ff ⟨.bl false,H3,I3,rfl,q3⟩
 | true=>exact ite_tt (chain_last (tv (hc pins s3 σ H3 _ I3 q3) fun w' s4 ⟨z',H4,I4,r4,q4⟩=>ho' pins s4 σ H4 y z' u w' Q I4 r2 r4 q4))
theorem En {op op':CmpOp}{r r':R2}(ho:OpR X (compareOp op) r)(ho':OpR X (compareOp op') r')(ha:PE X a ta)(hb:PE X b tb)(hc:PE X c tc)
  (hm:lastMarks [op,op'] [b,c]=false:=by with_unfolding_all rfl):PT X (.Compare a [op,op'] [b,c] pos) (DR (DS r r' ta tb tc)):=by
 intro pins s σ H Q I h;refine isTrue_chain (tv (ha pins s σ H _ I h) fun v s1 ⟨x,H1,I1,r1,q1⟩=>test_link (tv (hb pins s1 σ H1 _ I1 q1) fun u s2 ⟨y,H2,I2,r2,q2⟩ =>
  tv (ho pins s2 σ H2 x y v u _ I2 r1 r2 q2) fun d s3 ⟨z,H3,I3,r3,k,e,q3⟩=>?_)) hm
 subst e;cases r3;refine wpAny_truthy_bool ?_;cases k with
 | false =>
  obtain ⟨k',e',q'⟩:=q3;cases e';exact ite_ff ⟨H3,I3,q'⟩
 | true =>
  refine ite_tt (test_last (tv (hc pins s3 σ H3 _ I3 q3) fun w' s4 ⟨z',H4,I4,r4,q4⟩=>tv (ho' pins s4 σ H4 y z' u w' _ I4 r2 r4 q4) fun d' s5 ⟨z2,H5,I5,r5,k2,e2,q5⟩=>?_));subst e2;cases r5;exact wpAny_truthy_bool ⟨H5,I5,q5⟩
def Lp (K:Frag)(x:V)(H:Hp)(k:Bool):Prop :=
 match x with
 | .non=>k=false
 | .bl b=>k=b
 | .int i=>k=(i != 0)
 | .str y=>y.length<=sizeLine/\k=((y.length:Int) != 0)
 | .byt y=>y.size<=sizeLine/\k=((y.size:Int) != 0)
 | .ref p=>(∃ xs,SqL K H p xs/\k = !xs.isEmpty)\/(∃ xs,SqT K H p xs/\k = !xs.isEmpty)\/∃ kvs,H p=some (.dK kvs)/\k = !kvs.isEmpty
 | _=>False
theorem Bu {κ:Type}{kvs:List (κ×V)}{vs:List (κ×Value)}(r:KV kvs vs):(!vs.isEmpty) = !kvs.isEmpty:=by
 cases r <;> rfl
theorem xH {xs:List V}{its:List Value}(r:Vals xs its):(!its.toArray.isEmpty) = !xs.isEmpty:=by
 cases r <;> simp
theorem uo:(sizeLine:Nat)<2^63:=by rw [sizeLine_eq];decide
theorem Iw:MM X (fun x H Q=>∃ k,Lp X.K x H k/\Q k H):=by
 intro pins s σ H x v Q I rx h;obtain ⟨k,e,q⟩:=h;have hl:=uo;have hs:sizeLine=16777216:=sizeLine_eq;cases x with
 | non =>
  cases rx;have e':k=false:=e;subst e';exact truthy_none ⟨H,I,q⟩
 | bl b =>
  cases rx;have e':k=b:=e;subst e';exact wpAny_truthy_bool ⟨H,I,q⟩
 | int i =>
  obtain ⟨t,rfl⟩:=rx;have e':k=(i != 0):=e;subst e';exact PySem.P.truthy_int ⟨H,I,q⟩
 | str y =>
  obtain ⟨t,rfl⟩:=rx;obtain ⟨hy,e'⟩:y.length<=sizeLine/\k=((y.length:Int) != 0):=e;subst e';exact PySem.P.truthy_str (by omega) ⟨H,I.tok _,q⟩
 | byt y =>
  obtain ⟨t,rfl⟩:=rx;obtain ⟨hy,e'⟩:y.size<=sizeLine/\k=((y.size:Int) != 0):=e;subst e';exact PySem.W.truthy_bytes (by omega) ⟨H,I.tok _,q⟩
 | ref p =>
  cases rx;have e':(∃ xs,SqL X.K H p xs/\k = !xs.isEmpty)\/(∃ xs,SqT X.K H p xs/\k = !xs.isEmpty)\/∃ kvs,H p=some (.dK kvs)/\k = !kvs.isEmpty:=e;rcases e' with ⟨xs,hx,e'⟩ | ⟨xs,hx,e'⟩ | ⟨kvs,hx,e'⟩
  ·subst e';obtain ⟨its,r,pl,hz⟩:=I.list hx;have hlen:=r.length;exact wpAny_truthy_list pl.isList (by simp only [ai];omega) ⟨H,I.tok _,by rw [xH r];exact q⟩
  ·subst e';obtain ⟨its,r,pl,hz⟩:=I.tuple hx;have hlen:=r.length;exact truthy_tuple pl (by simp only [ai];omega) ⟨H,I.tok _,by rw [xH r];exact q⟩
  ·subst e';obtain ⟨hz,hS,vs,r,m⟩:kvs.length<=sizeLine/\(p == sysModules)=false/\∃ vs,KV kvs vs/\s.heap.DictOf (y6 X.prog X.w) p vs:=I.hok p _ hx;have hlen:kvs.length=vs.length:=Paired.length r;exact wpAny_truthy_dict hS m (by omega) ⟨H,I.tok _,by rw [Bu r];exact q⟩
 | _=>exact (show False from e).elim
theorem Em (ha:PE X a ta)(he:∀ whole,isTrue a X.env whole=(do let v ← whole;standAt a.pos;holding [v] (truthy v))) :
  PT X a (fun σ H Q=>ta σ H fun x H'=>∃ k,Lp X.K x H' k/\Q k H'):=by
 intro pins s σ H Q I h;exact isTrue_plain (tv (ha pins s σ H _ I h) fun v s1 ⟨x,H1,I1,r1,q1⟩=>Iw pins s1 σ H1 x v Q I1 r1 q1) (he _)
theorem Bn:OpR X (binaryOp .Add) (fun x y H Q=>∃ i j,x = .str i/\y = .str j/\i.length+j.length<=sizeLine/\Q (.str (i++j)) H):=by
 intro pins s σ H x y v u Q I rx ry h;obtain ⟨i,j,rfl,rfl,hz,q⟩:=h;obtain ⟨t,rfl⟩:=rx;obtain ⟨t',rfl⟩:=ry;exact add_str (fun t' tk=>⟨.str (i++j),H,I.tok _,⟨_,rfl⟩,q⟩) hz
theorem Az:OpR X (inplaceOp .Add) (fun x y H Q=>∃ i j,x = .str i/\y = .str j/\i.length+j.length<=sizeLine/\Q (.str (i++j)) H):=by
 intro pins s σ H x y v u Q I rx ry h;obtain ⟨i,j,rfl,rfl,hz,q⟩:=h;obtain ⟨t,rfl⟩:=rx;obtain ⟨t',rfl⟩:=ry;exact iadd_str (fun t' tk=>⟨.str (i++j),H,I.tok _,⟨_,rfl⟩,q⟩) hz
theorem wE {x:V}{us:List Value}(r:Vals [x] us):∃ u,us=[u]/\RelV x u:=by
 cases r with
 | cons r1 r2=>cases r2;exact ⟨_,rfl,r1⟩
theorem Kc {x y:V}{us:List Value}(r:Vals [x,y] us):∃ u w',us=[u,w']/\RelV x u/\RelV y w':=by
 cases r with
 | cons r1 r2 =>
  cases r2 with
  | cons r3 r4=>cases r4;exact ⟨_,_,rfl,r1,r3⟩
theorem Fw:CallR X (.builtin "abs") (fun xs H Q=>∃ i,xs=[.int i]/\Q (.int (if i<0 then -i else i)) H):=by
 intro pins s σ H xs us Q I r h;obtain ⟨i,rfl,q⟩:=h;obtain ⟨u,rfl,t,rfl⟩:=wE r;exact call_abs_int fun u tk=>⟨.int (if i<0 then -i else i),H,I.tok _,⟨_,rfl⟩,q⟩
theorem DD (hc:X.calm=true):CallR X (.builtin "max") (fun xs H Q=>∃ i j,xs=[.int i,.int j]/\Q (.int (if j > i then j else i)) H):=by
 intro pins s σ H xs us Q I r h;obtain ⟨i,j,rfl,q⟩:=h;obtain ⟨u,w',rfl,⟨t,rfl⟩,⟨t',rfl⟩⟩:=Kc r;refine max_two_ints (I.ok.hd hc) fun h' tk k=>⟨_,H,I.kept k,?_,q⟩;by_cases hj:j > i
 ·rw [if_pos hj,if_pos hj];exact ⟨_,rfl⟩
 ·rw [if_neg hj,if_neg hj];exact ⟨_,rfl⟩
theorem DE:CallR X (.type "int") (fun xs H Q=>(∃ i,xs=[.int i]/\Q (.int i) H)\/∃ k,xs=[.bl k]/\Q (.int (if k then 1 else 0)) H):=by
 intro pins s σ H xs us Q I r h;rcases h with ⟨i,rfl,q⟩ | ⟨k,rfl,q⟩
 ·obtain ⟨u,rfl,t,rfl⟩:=wE r;exact call_int_int ⟨.int i,H,I,⟨_,rfl⟩,q⟩
 ·obtain ⟨u,rfl,r1⟩:=wE r;cases r1;exact call_int_bool ⟨.int (if k then 1 else 0),H,I.tok _,⟨_,rfl⟩,q⟩
end
end L2
namespace L2
open PySem PySem.Spec PyProof.Rows
structure Room (k:Nat)(A:Around):Prop where
 hd:A.handled=none
 dp:A.depth+3*k+105<recursionLimit
 un:A.units+16*k+200<cLine
theorem Room.mono {j k:Nat}{A:Around}(r:Room k A)(h:j<=k):Room j A:=⟨r.hd,by have:=r.dp;omega,by have:=r.un;omega⟩
theorem Room.deeper {k:Nat}{A:Around}(r:Room (k+1) A)(env:Env):Room k (A.deeper env) :=
 ⟨r.hd,by have:=r.dp;show A.depth+1+3*k+105<_;omega,by have:=r.un;show A.units+3+16*k+200<_;omega⟩
theorem Room.depth {k:Nat}{A:Around}(r:Room k A):A.depth<recursionLimit:=by have:=r.dp;omega
theorem Room.units {k:Nat}{A:Around}(r:Room k A):A.units+64<cLine:=by have:=r.un;omega
def FZ:TA:=fun _ H Q=>Q [] H
def yf (ta:TE)(tr:TA):TA:=fun σ H Q=>ta σ H fun x H1=>tr σ H1 fun xs H2=>Q (x::xs) H2
section
variable {X:Cx}{e:Expr}{es:List Expr}{te:TE}{t:TA}{pos:Pos}
theorem pa_nil:PA X [] FZ:=fun _ _ _ _ H Q I h=>Calls.spliced_nil ⟨[],H,I,.nil,h⟩
theorem sZ (ha:PE X e te)(hr:PA X es t)(hs:starEach (e::es) X.env=(false,eval e X.env)::starEach es X.env:=by rfl):PA X (e::es) (yf te t):=by
 intro pos pins s σ H Q I h;rw [hs];show wpAny _ _ (spliced ((false,eval e X.env)::backTo pos (starEach es X.env))) _ _ s;refine Calls.spliced_cons (tv (ha pins s σ H _ I h) fun u s1 ⟨x,H1,I1,r1,q1⟩=>?_);exact tv (hr pos pins s1 σ H1 _ I1 q1) fun us s2 ⟨xs,H2,I2,r2,q2⟩=>⟨x::xs,H2,I2,.cons r1 r2,q2⟩
def L0 (t:TA):TE:=fun σ H Q=>t σ H fun xs H1=>xs.length<=sizeLine/\∀ p,H1 p=none->Q (.ref p) (tN H1 p (.tup xs))
def L6 (t:TA):TE:=fun σ H Q=>t σ H fun xs H1=>xs.length<=sizeLine/\∀ p,H1 p=none->Q (.ref p) (tN H1 p (.lst xs))
theorem Je {x1}(h:PA X es t):PE X (.Tuple es x1 pos) (L0 t):=by
 intro pins s σ H Q I hq;refine wpAny_Tuple_spliced (tv (h pos pins s σ H _ I hq) fun us s1 ⟨xs,H1,I1,r,z,q⟩=>⟨by rw [← r.length];exact z,?_⟩);have hf:H1 s1.heap.objs.size=none:=I1.hok.fresh (am _);refine ⟨.ref s1.heap.objs.size,tN H1 s1.heap.objs.size (.tup xs),I1.laid (t':=s1.toks) (fun b u e=>Heap.get?_push_of_some _ e) (am _) ?_,rfl,q _ hf⟩;exact ⟨z,us,r,⟨_,Heap.get?_push_size _ rfl,rfl,_,rfl⟩⟩
theorem Bi (h:PA X es t):PE X (.List es pos) (L6 t):=by
 intro pins s σ H Q I hq;refine wpAny_List_spliced (tv (h pos pins s σ H _ I hq) fun us s1 ⟨xs,H1,I1,r,z,q⟩=>⟨by rw [← r.length];exact z,?_⟩);have hf:H1 s1.heap.objs.size=none:=I1.hok.fresh (am _);refine ⟨.ref s1.heap.objs.size,tN H1 s1.heap.objs.size (.lst xs),I1.laid (t':=s1.toks) (fun b u e=>Heap.get?_push_of_some _ e) (am _) ?_,rfl,q _ hf⟩;exact ⟨z,us,0,r,Heap.get?_push_size _ rfl⟩
end
abbrev Sp:=List V->Hp->VK->XK->Prop
abbrev FP:=List Env->Hp->Shared->XK->Value->Shared->Prop
structure Env0 (P:Program)(w:World)(K:Frag)(mg:Str->Option Value)(base:Heap)(A:Around)(outer:List Env)(s:Shared)(H:Hp):Prop where
 frames:A.frames=some outer
 mod:Mod K mg base
 bs:∀ b o,base.get? b=some o->s.heap.get? b=some o/\H b=none
 bsz:base.objs.size<=s.heap.objs.size
 funs:s.heap.FunFrames base outer
 frf:∀ b∈CJ outer,H b=none
 hok:HOk P w H s.heap
 bare:AllBare s.gens
 sr:base.NoSeer/\P.given.tree=none
def CE (outer:List Env)(P:Program)(w:World)(H:Hp)(s:Shared)(Q:VK)(u:Value)(s':Shared):Prop :=
 ∃ v H',s'.os=s.os/\AllBare s'.gens/\Un (CJ outer) [] H H' s.heap s'.heap/\HOk P w H' s'.heap/\RelV v u/\Q v H'
def CR (CX:FP)(outer:List Env)(P:Program)(w:World)(H:Hp)(s:Shared)(Q:VK)(E:XK)(r:Result)(s':Shared):Prop :=
 match r with
 | .ok (.ret u)=>CE outer P w H s Q u s'
 | .ok _=>False
 | .error e=>CX outer H s E e s'
structure FnOk (P:Program)(w:World)(K:Frag)(mg:Str->Option Value)(base:Heap)(CX:FP)(k:Nat)(f:Addr)(fd:FuncData)(ps:List Str)(sp:Sp):Prop where
 len:∀ vs H Q E,sp vs H Q E->vs.length=ps.length
 run:∀ (A:Around) (outer:List Env) (s:Shared) (H:Hp) (args:Args) (us:List Value) (vs:List V) (Q:VK) (E:XK),Room k A->Env0 P w K mg base A outer s H->BindsTo s fd args (ps.zip us)->Vals vs us->sp vs H Q E ->
  codeAny (model P w) A (.call (.ref f) args) (CR CX outer P w H s Q E) s
theorem FnOk.imp {P:Program}{w:World}{K:Frag}{mg:Str->Option Value}{base:Heap}{CX:FP}{k:Nat}{f:Addr}{fd:FuncData}{ps:List Str}{sp sp':Sp}(F:FnOk P w K mg base CX k f fd ps sp)
  (h:∀ vs H Q E,sp' vs H Q E->sp vs H Q E):FnOk P w K mg base CX k f fd ps sp' :=
 ⟨fun vs H Q E q=>F.len vs H Q E (h _ _ _ _ q),fun A outer s H args us vs Q E hr he hb hv hs=>F.run A outer s H args us vs Q E hr he hb hv (h _ _ _ _ hs)⟩
section
variable {X:Cx}{pins:List (Addr×Obj)}{σ:St}{H:Hp}{s s':Shared}
theorem Inv.env0 (I:Inv X pins σ H s):Env0 X.prog X.w X.K X.mg X.base X.A X.stack s H :=
 ⟨I.ok.frames,I.ok.mod,I.bs,aH I.ok.bsz I.sz,I.stack,I.stkFree,I.hok,I.bare,I.ok.sr⟩
theorem Inv.after {Q:VK}{u:Value}(I:Inv X pins σ H s)(h:CE X.stack X.prog X.w H s Q u s'):EP X pins σ Q u s':=by
 obtain ⟨v,H',os,bare,un,hok,r,q⟩:=h;obtain ⟨hh,g,d,t,os'⟩:=s';obtain rfl:os'=s.os:=os;exact ⟨v,H',I.call (h':=hh) (g':=g) (d':=d) (t':=t) (ch:=[]) un hok bare (fun b z=>absurd z (by simp)),r,q⟩
end
def z8 (sp:Sp)(dvs:List V)(E:XK)(t:TA):TE:=fun σ H Q=>t σ H fun vs H1=>sp (vs++dvs) H1 Q E
def Binds (K:Frag)(fd:FuncData)(ps:List Str)(ds:List Value):Prop :=
 ∀ (s:Shared) (us:List Value),K.In s.heap->(us++ds).length=ps.length->BindsTo s fd ⟨us,[]⟩ (ps.zip (us++ds))
theorem Binds.all {K:Frag}{fd:FuncData}{ps:List Str}(h:∀ us:List Value,us.length=ps.length->bindArgs fd ⟨us,[]⟩=pure (ps.zip us)):Binds K fd ps []:=fun s us _ hl=>by
 rw [cL] at hl ⊢;exact .of_eq (h us hl)
def BX (CX:FP)(X:Cx)(E:XK):Prop:=∀ (pins:List (Addr×Obj)) (σ:St) (H:Hp) (s:Shared) (e:Value) (s':Shared),Inv X pins σ H s->CX X.stack H s E e s'->X.xe e s'
section
variable {X:Cx}{CX:FP}{k:Nat}{f C:Addr}{fd:FuncData}{ps:List Str}{sp:Sp}{dvs:List V}{ds:List Value}{E:XK}{x m:Str}{p pos apos:Pos}{e o:Expr}{es:List Expr}{ta:TE}{t:TA}
theorem IK {pins:List (Addr×Obj)}{σ:St}{H:Hp}{s:Shared}{Q:VK}{us:List Value}{vs:List V}(F:FnOk X.prog X.w X.K X.mg X.base CX k f fd ps sp)(hr:Room k X.A)(hb:Binds X.K fd ps ds)(hd:Vals dvs ds)(hx:BX CX X E)
  (I:Inv X pins σ H s) (r:Vals vs us) (h:sp (vs++dvs) H Q E):wpAny (model X.prog X.w) X.A (call (.ref f) us) (EP X pins σ Q) X.xe s:=by
 have r2:Vals (vs++dvs) (us++ds):=r.append hd;have hl:(us++ds).length=ps.length:=by rw [← r2.length];exact F.len _ _ _ _ h
 refine wpAny_call (codeAny_mono (F.run X.A X.stack s H ⟨us,[]⟩ (us++ds) (vs++dvs) Q E hr I.env0 (hb s us I.kIn hl) r2 h) fun r s' hq=>?_);cases r with
 | error e=>exact hx pins σ H s e s' I hq
 | ok fl =>
  cases fl with
  | ret u=>exact I.after hq
  | next=>exact False.elim hq
  | brk=>exact False.elim hq
  | cont=>exact False.elim hq
theorem Gj (F:FnOk X.prog X.w X.K X.mg X.base CX k f fd ps sp)(hr:Room k X.A)(hg:Gl X x)(hm:X.mg x=some (.ref f))(hk:PySem.W.keepIn X.K (.ref f)=true)(hb:Binds X.K fd ps ds)(hd:Vals dvs ds)(hx:BX CX X E)
  (ha:PA X (e::es) t) (hdb:(x == ("__debug__" : Str))=false:=by decide) (he:starEach (e::es) X.env=(false,eval e X.env)::starEach es X.env:=by rfl) (hpl:(backTo pos (starEach es X.env)).any (·.1)=false:=by rfl) :
  PE X (.Call (.Name x p) (e::es) [] pos) (z8 sp dvs E t):=by
 intro pins s σ H Q I h;refine wpAny_Call_Name_kw (Cz I hg hm ?_ hdb);refine PySem.W.callWith_K (h₀:=X.base) I.ok.mod.kin hk (tv (ha pos pins s σ H _ I h) fun us s1 ⟨vs,H1,I1,r,q⟩=>⟨I1.kIn,?_⟩) he hpl;exact IK F hr hb hd hx I1 r q
end
structure FnScope (N P:List Str)(sc:Scope):Prop where
 kind:sc.kind = .function
 co:sc.isCoroutine=false
 gen:sc.isGenerator=false
 nd:N.Nodup
 pre:N.take P.length=P
 par:∀ x∈P,sc.names.lookup x=some .local\/sc.names.lookup x=some .cell
 nofree:∀ y∈sc.names,y.2 ≠ .free
theorem yD {kindOf:Str->Option NameKind}{x:Str}:∀ {binds:List (Str×Value)} {m:Str->Option Value},(∀ v,(x,v) ∉ binds)->bindL kindOf binds m x=m x
 | [],_,_=>rfl
 | (n,v)::r,m,h=>by
  unfold bindL;rw [yD fun w hw=>h w (aw _ hw)];split
  ·have:x≠n:=by rintro rfl;exact h v ar
   simp [this]
  ·rfl
theorem yF {kindOf:Str->Option NameKind}{x:Str}:∀ {binds:List (Str×Value)} {m:Str->Option Value},(∀ v,(x,v) ∉ binds)->bindC kindOf binds m x=m x
 | [],_,_=>rfl
 | (n,v)::r,m,h=>by
  unfold bindC;rw [yF fun w hw=>h w (aw _ hw)];split
  ·rfl
  ·have:x≠n:=by rintro rfl;exact h v ar
   simp [this]
theorem yE {kindOf:Str->Option NameKind}{x:Str}{v:Value}:∀ {P:List Str} {vs:List Value} {i:Nat} {m:Str->Option Value},P.Nodup->P[i]? = some x->vs[i]? = some v->kindOf x=some .local ->
  bindL kindOf (P.zip vs) m x=some v
 | [],_,_,_,_,h,_,_=>by simp at h
 | _::_,[],_,_,_,_,h,_=>by simp at h
 | p::P,w::vs,0,m,nd,h1,h2,hk=>by
  simp at h1 h2;subst h1;subst h2;show bindL kindOf ((p,w)::P.zip vs) m p=_;unfold bindL;rw [yD fun v hv=>(eY.mp nd).1 (gA hv).1,if_pos hk];simp
 | p::P,w::vs,i+1,m,nd,h1,h2,hk=>by
  show bindL kindOf ((p,w)::P.zip vs) m x=_;unfold bindL;exact yE (i:=i) (eY.mp nd).2 (by simpa using h1) (by simpa using h2) hk
theorem yG {kindOf:Str->Option NameKind}{x:Str}{v:Value}:∀ {P:List Str} {vs:List Value} {i:Nat} {m:Str->Option Value},P.Nodup->P[i]? = some x->vs[i]? = some v->kindOf x≠some .local ->
  bindC kindOf (P.zip vs) m x=some v
 | [],_,_,_,_,h,_,_=>by simp at h
 | _::_,[],_,_,_,_,h,_=>by simp at h
 | p::P,w::vs,0,m,nd,h1,h2,hk=>by
  simp at h1 h2;subst h1;subst h2;show bindC kindOf ((p,w)::P.zip vs) m p=_;unfold bindC;rw [yF fun v hv=>(eY.mp nd).1 (gA hv).1,if_neg hk];simp
 | p::P,w::vs,i+1,m,nd,h1,h2,hk=>by
  show bindC kindOf ((p,w)::P.zip vs) m x=_;unfold bindC;exact yG (i:=i) (eY.mp nd).2 (by simpa using h1) (by simpa using h2) hk
def start (N:List Str)(vs:List V):St:=vs.map some++List.replicate (N.length-vs.length) none
def BK (CX:FP)(P:Program)(w:World)(K:Frag)(mg:Str->Option Value)(base:Heap)(N:List Str)(qual:Str)(scope:Scope)(f:Addr)(cd:Value)(A:Around)(outer:List Env)(s:Shared)(H:Hp)(E:XK):Cx where
 prog:=P
 w:=w
 K:=K
 mg:=mg
 base:=base
 A:=A.deeper (envOfC qual scope s.heap.objs.size f cd)
 N:=N
 s₀:=s
 H₀:=H
 env:=envOfC qual scope s.heap.objs.size f cd
 outer:=outer
 stack:=envOfC qual scope s.heap.objs.size f cd::outer
 ex:=[]
 calm:=true
 fn:=fun _=>true
 pn:=[]
 xe:=fun e s'=>wpAny (model P w) (A.deeper (envOfC qual scope s.heap.objs.size f cd)) (leaving (envOfC qual scope s.heap.objs.size f cd) e) (fun _ s''=>CX outer H s E e s'') (fun e' s''=>CX outer H s E e' s'') s'
theorem AO {sc:Scope}{n:Nat}{x:Str}(h:sc.names.lookup x=some .cell):∃ c,(cellsFrom n sc.names []).lookup x=some c:=by
 have q:=PySem.W.cellsFrom_some sc.names n [] (.inl h);exact Option.isSome_iff_exists.mp q
theorem Du {CX:FP}{P:Program}{w:World}{K:Frag}{mg:Str->Option Value}{base:Heap}{N ps:List Str}{qual:Str}{scope:Scope}{f:Addr}{cd:Value}{A:Around}{outer:List Env}{s s1:Shared}{H:Hp}{E:XK}{us:List Value}{vs:List V}
  (S:FnScope N ps scope) (hd:A.handled=none) (e0:Env0 P w K mg base A outer s H) (hl:vs.length=ps.length) (r:Vals vs us)
  (x:InCallC s s.heap.objs.size (bindL (envOfC qual scope s.heap.objs.size f cd).kindOf (ps.zip us) fun _=>none) (cellsFrom (s.heap.objs.size+1) scope.names []) (bindC (envOfC qual scope s.heap.objs.size f cd).kindOf (ps.zip us) fun _=>none) s1) :
  Inv (BK CX P w K mg base N qual scope f cd A outer s H E) [] (start N vs) H s1:=by
 have hpl:ps.length<=N.length:=by have:=congrArg List.length S.pre;rw [bf] at this;omega
 obtain ⟨h1,tk,rfl,hk⟩:=x.done;have noA:∀ b:Addr,b ∉ (BK CX P w K mg base N qual scope f cd A outer s H E).ex:=fun b z=>absurd (show b∈([]:List Addr) from z) (by simp);refine ⟨⟨e0.mod,S.kind,rfl,rfl,am _,fun y z c h1 h2=>?_,fun y hy=>?_,fun y c _ h=>?_,fun _=>hd,Around.frames_deeper e0.frames,.inr ⟨rfl,rfl⟩,fun b z=>absurd z (noA b),e0.bs,e0.bsz,fun b _ _=>noA b,fun b z=>absurd z (noA b),e0.funs,e0.frf,e0.sr,⟨_,_,rfl,S.gen,S.co,rfl,rfl⟩⟩,
  rfl,e0.bare,Un.kept hk,⟨_,x.toInCall.ns,fun i y v h1 h2 h3=>?_⟩,fun y c h=>⟨_,x.cell y c h⟩,e0.hok.fresh (am _),fun y c h=>?_,fun p hp=>absurd (show p∈([]:List (Addr×Obj)) from hp) (by simp),e0.hok.kept hk,?_⟩
 ·exact name_of_addr x.apart (PySem.mem_of_lookup h1) (PySem.mem_of_lookup h2)
 ·have hy:scope.names.lookup y=some .cell\/scope.names.lookup y=some .free:=hy;rcases hy with hy | hy
  ·exact AO hy
  ·exact absurd rfl (S.nofree _ (PySem.mem_of_lookup hy))
 ·exact gk (x.above y c (PySem.mem_of_lookup h))
 ·have hi:i<vs.length:=by
   unfold start at h2;by_cases hi:i<vs.length
   ·exact hi
   ·rw [bq (by simpa using hi)] at h2;rw [eU] at h2;split at h2 <;> cases h2
  have ha:vs[i]? = some v:=by
   unfold start at h2;rw [bx (by simpa using hi),aO] at h2;cases e:vs[i]? with
   | none=>rw [e] at h2;cases h2
   | some a=>rw [e] at h2;cases h2;rfl
  obtain ⟨u,hu,rv⟩:=r.get ha;have hp:ps[i]? = some y:=by
   rw [← S.pre,ez (by omega)];exact h1
  have ndP:ps.Nodup:=by rw [← S.pre];exact S.nd.sublist (List.take_sublist _ _)
  refine ⟨u,rv,?_⟩;rcases S.par y (aM hp) with k | k
  ·exact .inl ⟨k,yE ndP hp hu k⟩
  ·obtain ⟨c,e⟩:=AO (n:=s.heap.objs.size+1) k;refine .inr ⟨.inl k,c,e,?_⟩;have q:=x.cell y c e;rw [yG ndP hp hu (by show scope.names.lookup y≠_;rw [k];decide)] at q;exact q
 ·exact e0.hok.fresh (gk (x.above y c (PySem.mem_of_lookup h)))
 ·unfold start;show _=N.length;rw [aD,aa,bv];omega
theorem La {CX:FP}{P:Program}{w:World}{K:Frag}{mg:Str->Option Value}{base:Heap}{k:Nat}{f:Addr}{name qual:Str}{params:Arguments}{body:List Stmt}{scope:Scope}{dV kV doc pm cdv ct oc:Value}{an od:Option Addr}
  {osl:Array (Option Value)} {N ps:List Str} {sp:Sp} (lk:K.lookup f=some ⟨oc,od,.func (PySem.W.fnOf name qual params body scope dV kV doc pm an cdv ct),osl⟩) (hcd:PySem.W.codeIn K cdv qual=true) (S:FnScope N ps scope)
  (len:∀ vs H Q E,sp vs H Q E->vs.length=ps.length)
  (hbody:∀ (A:Around) (outer:List Env) (s:Shared) (H:Hp) (vs:List V) (Q:VK) (E:XK),Room k (A.deeper (envOfC qual scope s.heap.objs.size f cdv))->sp vs H Q E ->
   ∃ t,PSs (BK CX P w K mg base N qual scope f cdv A outer s H E) body t/\t { nx:=fun _ H'=>Q .non H',rt:=Q } (start N vs) H) :
  FnOk P w K mg base CX (k+1) f (PySem.W.fnOf name qual params body scope dV kV doc pm an cdv ct) ps sp:=by
 refine ⟨len,fun A outer s H args us vs Q E hr e0 hb r hsp=>?_⟩;have hl:=len _ _ _ _ hsp;have KX:K.In s.heap:=e0.mod.kin.keeps fun b o e=>(e0.bs b o e).1;have lim:s.heap.NoLimit:=e0.mod.nolimit.keeps fun b o e=>(e0.bs b o e).1;have hkind:∀ y∈ps.zip us,scope.names.lookup y.1=some .local\/(scope.names.lookup y.1=some .cell/\((cellsFrom (s.heap.objs.size+1) scope.names []).lookup y.1).isSome=true):=fun ⟨n,v⟩ hy=>by
  rcases S.par n (gA hy).1 with q | q
  ·exact .inl q
  ·exact .inr ⟨q,PySem.W.cellsFrom_some _ _ _ (.inl q)⟩
 refine codeAny_call_function hr.depth (KX _ _ lk) rfl S.co S.gen rfl (PySem.W.codeRec_of KX hcd) (hb _ _ _ _ ?_);refine wpAny_newFunctionEnv_cells S.kind hkind fun env he s1 x=>?_;subst he;refine ⟨lim.keeps x.toInCall.keep,codeAny_func ?_⟩;obtain ⟨t,ht,hq⟩:=hbody A outer s H vs Q E (hr.deeper _) hsp;have I:Inv (BK CX P w K mg base N qual scope f cdv A outer s H E) [] (start N vs) H s1:=Du S hr.hd e0 hl r x;refine wpAny_mono (ht [] s1 (start N vs) H _ I hq) (fun fl s' hs=>?_) fun e s' hs=>hs;have fin:∀ {σ':St} {H':Hp} {v:V} {u:Value},Inv (BK CX P w K mg base N qual scope f cdv A outer s H E) [] σ' H' s'->RelV v u->Q v H'->CE outer P w H s Q u s' :=
  fun {σ' H' v u} J rv q=>⟨v,H',J.os,J.bare,J.base,J.hok,rv,q⟩
 cases fl with
 | ret u =>
  obtain ⟨v,σ',H',J,rv,q⟩:=hs;exact fin J rv q
 | next =>
  obtain ⟨σ',H',J,q⟩:=hs;exact fin (v:=V.non) (u:=Value.none) J rfl q
 | brk =>
  obtain ⟨_,_,_,q⟩:=hs;exact False.elim q
 | cont =>
  obtain ⟨_,_,_,q⟩:=hs;exact False.elim q
end L2
namespace L2
open PySem PySem.Spec PyProof.Rows
section
variable {X:Cx}{x:Str}{p pos:Pos}{e:Expr}{es:List Expr}{t:TA}{id T:String}{r:List V->Hp->VK->Prop}
def Ma (r:List V->Hp->VK->Prop)(t:TA):TE:=fun σ H Q=>t σ H fun vs H1=>r vs H1 Q
theorem xA (hc:CallR X (.builtin id) r) (hg:Gl X x) (hm:X.mg x=none) (hv:bootBuiltins x=some (.builtin id)) (ha:PA X (e::es) t) (hn:x ≠ "__name__" := by decide) (hdb:(x == ("__debug__" : Str))=false:=by decide)
  (he:starEach (e::es) X.env=(false,eval e X.env)::starEach es X.env:=by rfl) (hpl:(backTo pos (starEach es X.env)).any (·.1)=false:=by rfl):PE X (.Call (.Name x p) (e::es) [] pos) (Ma r t):=by
 intro pins s σ H Q I h;refine wpAny_Call_Name_kw (wo I hg hm hv ?_ hn hdb);exact PyProof.Rows.callWith_builtin1 (tv (ha pos pins s σ H _ I h) fun us s1 ⟨vs,H1,I1,r1,q1⟩=>hc pins s1 σ H1 vs us Q I1 r1 q1) he hpl
theorem wj (hc:CallR X (.type T) r) (hg:Gl X x) (hm:X.mg x=none) (hv:bootBuiltins x=some (.type T)) (ha:PA X (e::es) t) (hn:x ≠ "__name__" := by decide) (hdb:(x == ("__debug__" : Str))=false:=by decide)
  (he:starEach (e::es) X.env=(false,eval e X.env)::starEach es X.env:=by rfl) (hpl:(backTo pos (starEach es X.env)).any (·.1)=false:=by rfl):PE X (.Call (.Name x p) (e::es) [] pos) (Ma r t):=by
 intro pins s σ H Q I h;refine wpAny_Call_Name_kw (wo I hg hm hv ?_ hn hdb);exact PyProof.Rows.callWith_type1 (tv (ha pos pins s σ H _ I h) fun us s1 ⟨vs,H1,I1,r1,q1⟩=>hc pins s1 σ H1 vs us Q I1 r1 q1) he hpl
end
end L2
namespace HT
open PySem PyProof.Rows
section
open PySem.SeqAt
open PySem.AutoSeq1 (wpAny_loadPart')
open PySem.MeetsSeq PySem.MeetsSeq2 PySem.MeetsSeq3
end
section
variable {prog:Program}{w:World}{A:Around}{E:Value->Shared->Prop}{s:Shared}
theorem Hd {t b:Addr}{vs ws:List Value}{Q:Value->Shared->Prop}(ht:IsTup s.heap t vs.toArray)(hb:IsTup s.heap b ws.toArray)(hv:vs≠[])
  (h1:ws=[]->Q (.ref t) s) (h2:ws≠[]->Q (.ref s.heap.objs.size) { s with heap:=s.heap.push { cls:=.type "tuple",data:=.seq (vs++ws).toArray } })
  (hsz:vs.length+ws.length<=sizeLine):wpAny (model prog w) A (binaryOp .Add (.ref t) (.ref b)) Q E s:=by
 obtain ⟨⟨cls,dd,data,sl⟩,ho,hc,n,hd⟩:=id ht;obtain ⟨⟨cls2,dd2,data2,sl2⟩,ho2,hc2,n2,hd2⟩:=id hb;simp only at hc hd hc2 hd2;subst hc hd hc2 hd2;have e:vs.toArray++ws.toArray=(vs++ws).toArray:=by simp
 by_cases hw:ws=[]
 ·exact concat_meets ⟨_,ho,rfl⟩ ⟨_,ho2,rfl⟩ noFill_tuple_add seq_tuple_add PySem.F.slot_tuple_add PySem.F.entry_tuple_add (PySem.F.args_tuple_add_2 _ _)
   (tuple_addW1 t b vs.toArray ws.toArray n n2 dd dd2 sl sl2 (by simpa using hv) (by simp [hw])) ⟨ho,ho2,h1 hw⟩
 ·refine concat_meets ⟨_,ho,rfl⟩ ⟨_,ho2,rfl⟩ noFill_tuple_add seq_tuple_add PySem.F.slot_tuple_add PySem.F.entry_tuple_add (PySem.F.args_tuple_add_2 _ _)
   (tuple_addW2 t b vs.toArray ws.toArray n n2 dd dd2 sl sl2 (by simpa using hv) (by simpa using hw) (by rw [ai,ai];exact hsz)) ⟨ho,ho2,?_⟩
  rw [e];exact h2 hw
def tM (n d:Nat):Option Int->Nat
 | none=>d
 | some v=>if v<0 then (v+(n:Int)).toNat else min v.toNat n
theorem D8 (n d:Nat):tM n d none=d:=rfl
theorem F2 (n d k:Nat):tM n d (some (k:Int))=min k n:=by
 show (if (k:Int)<0 then ((k:Int)+(n:Int)).toNat else min (k:Int).toNat n)=min k n;rw [if_neg (by omega),aS]
theorem IJ (n d:Nat)(hd:d<=n)(o:Option Int):tM n d o<=n:=by
 cases o with
 | none=>exact hd
 | some v =>
  show (if v<0 then (v+(n:Int)).toNat else min v.toNat n)<=n;by_cases hv:v<0
  ·rw [if_pos hv];omega
  ·rw [if_neg hv];exact Nat.min_le_right _ _
theorem CU (v:Int)(n d:Nat):(if v<0 then max (v+(n:Int)) 0 else min v (n:Int))=((tM n d (some v):Nat):Int):=by
 show (if v<0 then max (v+(n:Int)) 0 else min v (n:Int))=(((if v<0 then (v+(n:Int)).toNat else min v.toNat n):Nat):Int);by_cases hv:v<0
 ·simp only [if_pos hv];omega
 ·simp only [if_neg hv];omega
theorem BW (lo hi:Option Int)(n:Nat):Builtin.Slice.sliceAdjust lo hi 1 (n:Int)=(((tM n 0 lo:Nat):Int),((tM n n hi:Nat):Int)):=by
 have h1:¬ ((1:Int)<0):=by omega
 unfold Builtin.Slice.sliceAdjust;simp only [h1,if_false];refine Prod.ext ?_ ?_
 ·cases lo with
  | none=>rfl
  | some v=>exact CU v n 0
 ·cases hi with
  | none=>rfl
  | some v=>exact CU v n n
theorem Bf (i j:Nat):Builtin.Slice.slicePlaces (i:Int) (j:Int) 1=j-i:=by
 unfold Builtin.Slice.slicePlaces;have h1:(1:Int) > 0:=by omega
 simp only [h1,if_true,Int.ediv_one];split <;> omega
theorem xp {v:Value}{o:Option Int}{Q:Option Int->Shared->Prop}(p:IsPart v o)(h:Q o s):wpAny (model prog w) A (Builtin.Slice.slicePartIndex v) Q E s:=by
 cases p with
 | none=>exact slicePart_none h
 | int i t=>exact slicePart_int h
theorem ut {sl:Addr}{vl vu:Value}{lo hi:Option Int}{n:Nat}{Q:Int×Int×Nat->Shared->Prop}(hs:s.heap.IsSliceOf sl vl vu .none)(pl:IsPart vl lo)(pu:IsPart vu hi)
  (h:Q (((tM n 0 lo:Nat):Int),1,tM n n hi-tM n 0 lo) s):wpAny (model prog w) A (Builtin.Slice.sliceApplied (.ref sl) (pure (n:Int))) Q E s:=by
 obtain ⟨os,hos,hcs,hds⟩:=id hs;unfold Builtin.Slice.sliceApplied Builtin.Slice.sliceFields;refine wpAny_bind (wpAny_bind (wpAny_field hos hds (x:=vl) rfl (wpAny_bind (wpAny_field hos hds (x:=vu) rfl (wpAny_bind (wpAny_field hos hds (x:=.none) rfl (wpAny_pure ?_)))))));refine wpAny_bind (slicePart_none ?_);show wpAny _ _ (if ((1:Int) == 0)=true then _ else _) _ _ s;rw [if_neg (by decide)];refine wpAny_bind (xp pl (wpAny_bind (xp pu (wpAny_bind (wpAny_pure ?_)))));show wpAny _ _ (match Builtin.Slice.sliceAdjust lo hi 1 (n:Int) with | (lo,hi)=>pure (lo,(1:Int),Builtin.Slice.slicePlaces lo hi 1)) _ _ s;rw [BW lo hi n];show wpAny _ _ (pure (((tM n 0 lo:Nat):Int),(1:Int),Builtin.Slice.slicePlaces ((tM n 0 lo:Nat):Int) ((tM n n hi:Nat):Int) 1)) _ _ s;rw [Bf];exact wpAny_pure h
theorem Es (xs:Array Value)(i k:Nat):((List.range k).filterMap fun (m:Nat)=>xs[((i:Int)+(m:Int)*1).toNat]?).toArray=((xs.toList.drop i).take k).toArray:=by
 have e:(fun (m:Nat)=>xs[((i:Int)+(m:Int)*1).toNat]?)=fun m=>xs[i+m]?:=by
  funext m;have:((i:Int)+(m:Int)*1).toNat=i+m:=by omega
  rw [this]
 rw [e];have:=pick_run xs i k;rw [List.filterMap_map] at this;have e2:((fun x=>xs[x]?)∘fun x=>i+x)=fun m=>xs[i+m]?:=rfl;rw [e2] at this;rw [this]
theorem vY {t sl:Addr}{items:Array Value}{vl vu:Value}{lo hi:Option Int}{Q:Value->Shared->Prop}(ht:IsTup s.heap t items)(hs:s.heap.IsSliceOf sl vl vu .none)(pl:IsPart vl lo)(pu:IsPart vu hi)
  (hw:¬ (tM items.size 0 lo=0/\tM items.size items.size hi=items.size))
  (h:Q (.ref s.heap.objs.size) { s with heap:=s.heap.push { cls:=.type "tuple",data:=.seq ((items.toList.drop (tM items.size 0 lo)).take (tM items.size items.size hi-tM items.size 0 lo)).toArray } })
  (hsz:items.size<=sizeLine):wpAny (model prog w) A (getItem (.ref t) (.ref sl)) Q E s:=by
 have htake:sizeOk (.seq ((items.toList.drop (tM items.size 0 lo)).take (tM items.size items.size hi-tM items.size 0 lo)).toArray):=by
  show ((items.toList.drop (tM items.size 0 lo)).take (tM items.size items.size hi-tM items.size 0 lo)).toArray.size<=sizeLine;rw [ai,bf,iF,dr];omega
 have hj:tM items.size items.size hi<=items.size:=IJ _ _ (am _) hi;obtain ⟨os,hos,hcs,hds⟩:=id hs;have hTs:s.TypeIs (.ref sl) "slice" := ⟨os,hos,hcs⟩;unfold getItem;try with_reducible refine wpAny_holding ?_
 first | refine wpAny_bind (wpAny_pure ?_) | skip
 refine wpAny_bind (wpAny_sequenceKey ht.typeIs (by decide) ?_);refine wpAny_bind (wpAny_callSpecial?_slot (name:=Str.ofString "__getitem__") ht.typeIs PyProof.Rows.slot_tuple_getitem
  (wpAny_call_entry PyProof.Rows.slot_tuple_getitem ht.typeIs entry_tuple_getitem ?_ (args_tuple_getitem _ _)))
 show wpAny _ _ (Builtin.Tuple.tupleItemsOf (.ref t) >>= _) _ _ s;refine wpAny_bind (tupleItemsOf_ ht ?_);refine wpAny_bind (wpAny_typeOf hTs ?_);rw [if_pos (by decide)];refine wpAny_bind (ut hs pl pu ?_);have hno:¬ ((((tM items.size 0 lo:Nat):Int) == 0 && (1:Int) == 1 && (tM items.size items.size hi-tM items.size 0 lo) == items.size)=true):=by
  intro q;rw [bN,bN] at q;have q1:((tM items.size 0 lo:Nat):Int)=0:=eq_of_beq q.1.1;have q2:tM items.size items.size hi-tM items.size 0 lo=items.size:=eq_of_beq q.2;exact hw ⟨by omega,by omega⟩
 show wpAny _ _ (if (((tM items.size 0 lo:Nat):Int) == 0 && (1:Int) == 1 && (tM items.size items.size hi-tM items.size 0 lo) == items.size)=true then _ else _) _ _ s;rw [if_neg hno,Es];first
  | exact wpAny_bind (m:=Builtin.Tuple.tupleExact _) (wpAny_newObj_type (wpAny_pure ⟨_,rfl,wpAny_pure h⟩) htake)
  | exact wpAny_bind (m:=Builtin.Tuple.tupleExact _) (wpAny_newObj_type (wpAny_bind (wpAny_pure (wpAny_pure ⟨_,rfl,wpAny_pure h⟩))) htake)
  | exact wpAny_bind (wpAny_bind (m:=Builtin.Tuple.tupleExact _) (wpAny_newObj_type (wpAny_pure (wpAny_pure ⟨_,rfl,wpAny_pure h⟩)) htake))
  | exact wpAny_bind (wpAny_bind (m:=Builtin.Tuple.tupleExact _) (wpAny_newObj_type (wpAny_pure ⟨_,rfl,wpAny_pure h⟩) htake))
end
end HT
namespace L2
open PySem PySem.Spec PyProof.Rows
abbrev TO:=St->Hp->(Option Int->Hp->Prop)->Prop
def PO (X:Cx)(e:Option Expr)(t:TO):Prop :=
 ∀ (pins:List (Addr×Obj)) (s:Shared) (σ:St) (H:Hp) (Q:Option Int->Hp->Prop),Inv X pins σ H s->t σ H Q ->
  wpAny (model X.prog X.w) X.A (evalPart e X.env) (fun u s'=>∃ o H',Inv X pins σ H' s'/\IsPart u o/\Q o H') X.xe s
def FY:TO:=fun _ H Q=>Q none H
def Kk (t:TE):TO:=fun σ H Q=>t σ H fun x H1=>∃ i,x = .int i/\Q (some i) H1
section
variable {X:Cx}{e:Expr}{te:TE}{lo hi:Option Expr}{tl th:TO}{pos p2:Pos}
theorem po_none:PO X none FY:=by
 intro pins s σ H Q I h;rw [evalPart_none];exact wpAny_pure ⟨none,H,I,.none,h⟩
theorem Cg (h:PE X e te):PO X (some e) (Kk te):=by
 intro pins s σ H Q I hw;rw [evalPart_some];refine tv (h pins s σ H _ I hw) fun u s1 ⟨x,H1,I1,r1,q1⟩=>?_;obtain ⟨i,rfl,q⟩:=q1;obtain ⟨t,rfl⟩:=r1;exact ⟨some i,H1,I1,.int i t,q⟩
def SlR (X:Cx)(r:V->Option Int->Option Int->Hp->VK->Prop):Prop :=
 ∀ (pins:List (Addr×Obj)) (s:Shared) (σ:St) (H:Hp) (x:V) (v vl vu:Value) (lo hi:Option Int) (sl:Addr) (Q:VK),Inv X pins σ H s->RelV x v->s.heap.IsSliceOf sl vl vu .none->IsPart vl lo->IsPart vu hi->r x lo hi H Q ->
  ∃ T id,typeLookup (.type T) "__getitem__" = pure (some (.builtin id))/\s.TypeIs v T/\wpAny (model X.prog X.w) X.A (getItem v (.ref sl)) (EP X pins σ Q) X.xe s
theorem SlR.or {r r':V->Option Int->Option Int->Hp->VK->Prop}(h:SlR X r)(h':SlR X r'):SlR X (fun x lo hi H Q=>r x lo hi H Q\/r' x lo hi H Q):=by
 intro pins s σ H x v vl vu lo hi sl Q I rx hs pl pu q;rcases q with q | q
 ·exact h pins s σ H x v vl vu lo hi sl Q I rx hs pl pu q
 ·exact h' pins s σ H x v vl vu lo hi sl Q I rx hs pl pu q
def Nh (r:V->Option Int->Option Int->Hp->VK->Prop)(te:TE)(tl th:TO):TE:=fun σ H Q=>te σ H fun x H1=>tl σ H1 fun l H2=>th σ H2 fun u H3=>r x l u H3 Q
theorem Ev {r:V->Option Int->Option Int->Hp->VK->Prop}(hr:SlR X r)(he:PE X e te)(hl:PO X lo tl)(hu:PO X hi th):PE X (.Subscript e (.Slice lo hi none p2) pos) (Nh r te tl th):=by
 intro pins s σ H Q I h;refine Subscript_ (tv (he pins s σ H _ I h) fun v s1 ⟨x,H1,I1,r1,q1⟩=>?_);refine wpAny_Slice (tv (hl pins s1 σ H1 _ I1 q1) fun vl s2 ⟨l,H2,I2,pl,q2⟩=>tv (hu pins s2 σ H2 _ I2 q2) fun vu s3 ⟨u,H3,I3,pu,q3⟩=>?_);rw [evalPart_none];refine wpAny_pure ?_;have I4:Inv X pins σ H3 { s3 with heap:=s3.heap.push { cls:=.type "slice",data:=.fields #[vl,vu,.none] } }:=I3.kept (t':=s3.toks) fun b ob q=>Heap.get?_push_of_some _ q;obtain ⟨T,id,hT,ht,hg⟩:=hr pins { s3 with heap:=s3.heap.push { cls:=.type "slice",data:=.fields #[vl,vu,.none] } } σ H3 x v vl vu l u s3.heap.objs.size Q I4 r1 (Heap.IsSliceOf.new ..) pl pu q3;show wpAny (model X.prog X.w) X.A (subscriptTail e (.Slice lo hi none p2) v (.ref s3.heap.objs.size)) (EP X pins σ Q) X.xe { s3 with heap:=s3.heap.push { cls:=.type "slice",data:=.fields #[vl,vu,.none] } };exact tail_any (ops:=[.ref s3.heap.objs.size,v]) ht hT hg (by with_unfolding_all rfl)
def AL (xs:List V)(lo hi:Option Int):List V:=(xs.drop (HT.tM xs.length 0 lo)).take (HT.tM xs.length xs.length hi-HT.tM xs.length 0 lo)
theorem wV (xs:List V)(lo hi:Option Int):(AL xs lo hi).length<=xs.length:=by
 unfold AL;rw [bf,iF];omega
def Mi (K:Frag):V->Option Int->Option Int->Hp->VK->Prop:=fun x lo hi H Q=>∃ a xs,x = .ref a/\SqT K H a xs /\
 ¬ (HT.tM xs.length 0 lo=0/\HT.tM xs.length xs.length hi=xs.length)/\∀ p,H p=none->Q (.ref p) (tN H p (.tup (AL xs lo hi)))
theorem sl_tup:SlR X (Mi X.K):=by
 intro pins s σ H x v vl vu lo hi sl Q I rx hs pl pu h;obtain ⟨a,xs,rfl,hx,hw,q⟩:=h;cases rx;obtain ⟨its,r,ht,hz⟩:=I.tuple hx;have hlen:its.toArray.size=xs.length:=by rw [ai];exact r.length.symm
 refine ⟨"tuple",_,PyProof.Rows.slot_tuple_getitem.lookup,ht.typeIs,?_⟩;refine HT.vY ht hs pl pu (by rw [hlen];exact hw) ?_ (by rw [hlen];exact hz);rw [hlen];refine ⟨.ref s.heap.objs.size,_,I.laid (t':=s.toks) (o:=.tup (AL xs lo hi)) (fun b ob q=>Heap.get?_push_of_some _ q) (am _) ?_,rfl,q _ (I.hok.fresh (am _))⟩;exact ⟨aH (wV xs lo hi) hz,_,(r.drop (HT.tM xs.length 0 lo)).take (HT.tM xs.length xs.length hi-HT.tM xs.length 0 lo),IsTup.new _ _⟩
def KE (K:Frag):R2:=fun x y H Q=>∃ a b xs ys,x = .ref a/\y = .ref b/\SqT K H a xs/\SqT K H b ys/\xs≠[]/\xs.length+ys.length<=sizeLine /\
 (ys=[]->Q (.ref a) H)/\(ys≠[]->∀ p,H p=none->Q (.ref p) (tN H p (.tup (xs++ys))))
theorem Vals.nil_iff {xs:List V}{us:List Value}(r:Vals xs us):us=[]↔xs=[]:=by
 cases r with
 | nil=>simp
 | cons _ _=>simp
theorem Gp:OpR X (binaryOp .Add) (KE X.K):=by
 intro pins s σ H x y v u Q I rx ry h;obtain ⟨a,b,xs,ys,rfl,rfl,ha,hb,hx,hz,q1,q2⟩:=h;cases rx;cases ry;obtain ⟨its,r1,p1,_⟩:=I.tuple ha;obtain ⟨its2,r2,p2,_⟩:=I.tuple hb;refine HT.Hd p1 p2 (fun z=>hx (r1.nil_iff.mp z)) (fun z=>⟨.ref a,H,I,rfl,q1 (r2.nil_iff.mp z)⟩) (fun z=>?_) (by rw [← r1.length,← r2.length];exact hz);refine ⟨.ref s.heap.objs.size,_,I.laid (t':=s.toks) (o:=.tup (xs++ys)) (fun b ob q=>Heap.get?_push_of_some _ q) (am _) ?_,rfl,q2 (fun w=>z (r2.nil_iff.mpr w)) _ (I.hok.fresh (am _))⟩;exact ⟨by rw [aD];exact hz,_,r1.append r2,IsTup.new _ _⟩
end
end L2
namespace L2
open PySem PySem.Spec PyProof.Rows
def AX (n:Nat)(i:Int):Option Nat:=if 0<=i then (if i<n then some i.toNat else none) else if -(n:Int)<=i then some (i+n).toNat else none
def xZ {α:Type}(xs:List α)(i:Int):Option α:=(AX xs.length i).bind fun j=>xs[j]?
theorem CB {n:Nat}{i:Int}{j:Nat}(h:AX n i=some j):seqIndex? i n=some j/\j<n /\ -(n:Int)<=i/\i<n:=by
 unfold AX at h;by_cases h0:0<=i
 ·rw [if_pos h0] at h;by_cases h1:i<n
  ·rw [if_pos h1] at h;have e:i.toNat=j:=Option.some.inj h;exact ⟨by rw [seqIndex_of h0 h1,e],by omega,by omega,h1⟩
  ·rw [if_neg h1] at h;cases h
 ·rw [if_neg h0] at h;by_cases h1 : -(n:Int)<=i
  ·rw [if_pos h1] at h;have e:(i+n).toNat=j:=Option.some.inj h;exact ⟨by rw [seqIndex_neg (by omega) h1,e],by omega,h1,by omega⟩
  ·rw [if_neg h1] at h;cases h
theorem zQ {α:Type}{xs:List α}{i:Int}{v:α}(h:xZ xs i=some v):∃ j,seqIndex? i xs.length=some j/\xs[j]? = some v/\j<xs.length /\ -(xs.length:Int)<=i/\i<xs.length:=by
 unfold xZ at h;cases e:AX xs.length i with
 | none=>rw [e] at h;cases h
 | some j =>
  rw [e] at h;obtain ⟨h1,h2,h3,h4⟩:=CB e;exact ⟨j,h1,h,h2,h3,h4⟩
theorem va {α:Type}{xs:List α}{j:Nat}{v:α}(h:xs[j]? = some v):xZ xs (j:Int)=some v:=by
 have hj:j<xs.length:=(aj.mp h).1;have e:AX xs.length (j:Int)=some j:=by
  unfold AX;rw [if_pos (by omega),if_pos (by omega)];simp
 unfold xZ;rw [e];exact h
def xj (b:Expr):Prop:=∀ o i,subscripted b false o i=operate [o,i] (getItem o i)
def IxR (X:Cx)(r:R2):Prop :=
 ∀ (value slice:Expr) (pins:List (Addr×Obj)) (s:Shared) (σ:St) (H:Hp) (x y:V) (v u:Value) (Q:VK),Inv X pins σ H s->RelV x v->RelV y u->r x y H Q ->
  subscripted slice false v u=operate [v,u] (getItem v u)->wpAny (model X.prog X.w) X.A (subscriptTail value slice v u) (EP X pins σ Q) X.xe s
def Na (X:Cx)(id:String)(r:V->List V->Hp->VK->Prop):Prop :=
 ∀ (pins:List (Addr×Obj)) (s:Shared) (σ:St) (H:Hp) (x:V) (xs:List V) (v:Value) (us:List Value) (Q:VK),Inv X pins σ H s->RelV x v->Vals xs us->r x xs H Q ->
  wpAny (model X.prog X.w) X.A (call (.builtin id) (v::us)) (EP X pins σ Q) X.xe s
section
variable {X:Cx}{a b:Expr}{ta tb:TE}{pos:Pos}
theorem IxR.or {r r':R2}(h:IxR X r)(h':IxR X r'):IxR X (fun x y H Q=>r x y H Q\/r' x y H Q):=by
 intro value slice pins s σ H x y v u Q I rx ry q hs;rcases q with q | q
 ·exact h value slice pins s σ H x y v u Q I rx ry q hs
 ·exact h' value slice pins s σ H x y v u Q I rx ry q hs
theorem tV {r:R2}(hr:IxR X r)(ha:PE X a ta)(hb:PE X b tb)(hs:xj b):PE X (.Subscript a b pos) (Kl r ta tb):=by
 intro pins s σ H Q I h;exact Subscript_ (J0 ha hb I h fun v u s2 x y H2 I2 rx ry q=>hr a b pins s2 σ H2 x y v u Q I2 rx ry q (hs _ _))
def IV (K:Frag):R2:=fun x y H Q=>∃ p xs i v,x = .ref p/\y = .int i/\SqL K H p xs/\xZ xs i=some v/\Q v H
def KA (K:Frag):R2:=fun x y H Q=>∃ p xs i v,x = .ref p/\y = .int i/\SqT K H p xs/\xZ xs i=some v/\Q v H
def KB:R2:=fun x y H Q=>∃ z i c,x = .str z/\y = .int i/\z.length<=sizeLine/\xZ z.cps.toList i=some c/\Q (.str ⟨#[c]⟩) H
theorem ix_list:IxR X (IV X.K):=by
 intro value slice pins s σ H x y v u Q I rx ry h hs;obtain ⟨p,xs,i,z,rfl,rfl,hq,he,q⟩:=h;cases rx;obtain ⟨t,rfl⟩:=ry;obtain ⟨its,r,pl,hz⟩:=I.list hq;obtain ⟨j,h1,h2,h3,h4,h5⟩:=zQ he;obtain ⟨w,ew,rw'⟩:=r.get h2;have hl:=r.length;have hn:=uo;have fin:EP X pins σ Q w s:=⟨z,H,I,rw',q⟩;by_cases h0:0<=i
 ·have hj:i.toNat=j:=by
   rw [seqIndex_of h0 h5] at h1;exact Option.some.inj h1
  exact item_listR pl.isList h0 (by omega) (by rw [hj];simpa using ew) fin hs
 ·have hj:(i+(its.toArray.size:Int)).toNat=j:=by
   rw [seqIndex_neg (by omega) h4] at h1;rw [ai,← hl];exact Option.some.inj h1
  exact subscriptTail_builtinR (x:=w) pl.isList.typeIs slot_list_getitem.lookup
   (wpAny_getItem_list_neg (Q:=fun r s'=>r=w/\EP X pins σ Q r s') pl.isList (by omega) (by rw [ai] <;> omega) (by omega) (by rw [hj];simpa using ew) ⟨rfl,fin⟩) hs
theorem ix_tup:IxR X (KA X.K):=by
 intro value slice pins s σ H x y v u Q I rx ry h hs;obtain ⟨p,xs,i,z,rfl,rfl,hq,he,q⟩:=h;cases rx;obtain ⟨t,rfl⟩:=ry;obtain ⟨its,r,pl,hz⟩:=I.tuple hq;obtain ⟨j,h1,h2,h3,h4,h5⟩:=zQ he;obtain ⟨w,ew,rw'⟩:=r.get h2;have hl:=r.length;have hn:=uo;have fin:EP X pins σ Q w s:=⟨z,H,I,rw',q⟩;exact subscriptTail_builtinR (x:=w) pl.typeIs slot_tuple_getitem.lookup
  (getItem_tuple (j:=j) (Q:=fun r s'=>r=w/\EP X pins σ Q r s') pl (by omega) (by omega) (by rw [ai,← hl];exact h1) (by simpa using ew) ⟨rfl,fin⟩) hs
theorem JE:IxR X KB:=by
 intro value slice pins s σ H x y v u Q I rx ry h hs;obtain ⟨z,i,c,rfl,rfl,hz,he,q⟩:=h;obtain ⟨t,rfl⟩:=rx;obtain ⟨t',rfl⟩:=ry;obtain ⟨j,h1,h2,h3,h4,h5⟩:=zQ he;have hl:z.cps.toList.length=z.length:=by simp [Str.length]
 rw [hl] at h1 h4 h5;have hn:=uo;exact tail_any (typeIs_str s z t) slot_str_getitem.lookup (getItem_str (c:=c) (by
  have e1:decide (i < -(2^63:Int))=false:=decide_eq_false (by omega);have e2:decide (i ≥ 2^63)=false:=decide_eq_false (by omega);rw [e1,e2,Bool.or_false]) (by rw [h1];simpa using h2) ⟨.str ⟨#[c]⟩,H,I.tok _,⟨_,rfl⟩,q⟩) hs
def MW (K:Frag):R2:=fun x y H Q=>IV K x y H Q\/KA K x y H Q\/KB x y H Q
theorem EZ:IxR X (MW X.K):=ix_list.or (ix_tup.or JE)
theorem Bq (its:List Value)(n j:Nat)(u:Value):Obj.mapSeq (·.setIfInBounds j u) { cls:=.type "list",data:=.seq its.toArray n } = { cls:=.type "list",data:=.seq (its.set j u).toArray n }:=by
 simp [Obj.mapSeq]
theorem Inv.lst {pins:List (Addr×Obj)}{σ:St}{H:Hp}{s:Shared}{p:Addr}{xs:List V}(I:Inv X pins σ H s)(h:H p=some (.lst xs)) :
  ∃ (its:List Value) (n:Nat),Vals xs its/\s.heap.get? p=some { cls:=.type "list",data:=.seq its.toArray n }/\xs.length<=sizeLine:=by
 obtain ⟨z,its,n,r,e⟩:=I.hok p _ h;exact ⟨its,n,r,e,z⟩
theorem Inv.lstUpd {pins:List (Addr×Obj)}{σ:St}{H:Hp}{s:Shared}{p:Addr}{xs ys:List V}{its its':List Value}{n n':Nat}{f:Obj->Obj}(I:Inv X pins σ H s)(h:H p=some (.lst xs))
  (ho:s.heap.get? p=some { cls:=.type "list",data:=.seq its.toArray n }) (hf:f { cls:=.type "list",data:=.seq its.toArray n } = { cls:=.type "list",data:=.seq its'.toArray n' }) (r:Vals ys its') (hz:ys.length<=sizeLine) (t:Nat) :
  Inv X pins σ (tN H p (.lst ys)) { s with heap:=s.heap.update p f,toks:=t }:=by
 have e:(s.heap.update p f).get? p=some { cls:=.type "list",data:=.seq its'.toArray n' }:=by
  rw [Heap.get?_update_self f ho (by rw [hf] <;> rfl),hf]
 refine I.write (x:=p) (e:=p) (by rw [h];trivial) (.inl rfl) (fun b u hb q=>(Heap.get?_update_other _ _ (Ne.symm hb)).trans q) ⟨_,e⟩ ?_;exact ⟨hz,its',n',r,e⟩
def HB:V->V->V->Hp->(Hp->Prop)->Prop:=fun o i v H Q=>∃ p xs k j,o = .ref p/\i = .int k/\H p=some (.lst xs)/\AX xs.length k=some j/\Q (tN H p (.lst (xs.set j v)))
theorem t4:J5 X HB:=by
 intro pins s σ H o i v ov iv u Q I ro ri rv h;obtain ⟨p,xs,k,j,rfl,rfl,hp,hj,q⟩:=h;cases ro;obtain ⟨t,rfl⟩:=ri;obtain ⟨its,n,r,ho,hz⟩:=I.lst hp;obtain ⟨h1,h2,h3,h4⟩:=CB hj;have hl:=r.length;have hn:=uo;have I':Inv X pins σ (tN H p (.lst (xs.set j v))) { s with heap:=s.heap.update p (Obj.mapSeq (·.setIfInBounds j u)) } :=
  I.lstUpd hp ho (Bq its n j u) (r.set rv j) (by rw [bu];exact hz) s.toks
 by_cases h0:0<=k
 ·have hk:k.toNat=j:=by
   rw [seqIndex_of h0 h4] at h1;exact Option.some.inj h1
  exact PySem.W.ki_setAt ho h0 (by omega) (by rw [ai,← hl];exact h4) (by rw [hk];exact ⟨_,I',q⟩)
 ·have hk:(k+(its.toArray.size:Int)).toNat=j:=by
   rw [seqIndex_neg (by omega) h3] at h1;rw [ai,← hl];exact Option.some.inj h1
  exact PySem.W.ki_setBack ho (by omega) (by rw [ai,← hl];exact h3) (by omega) (by rw [hk];exact ⟨_,I',q⟩)
theorem yQ (lo hi:Option Int)(n:Nat):(sliceBounds lo hi none n).1=((HT.tM n 0 lo:Nat):Int)/\(sliceBounds lo hi none n).2.1=((HT.tM n n hi:Nat):Int)/\(sliceBounds lo hi none n).2.2=1:=by
 refine ⟨?_,?_,rfl⟩
 ·cases lo with
  | none=>simp [sliceBounds,HT.tM]
  | some i =>
   simp only [sliceBounds,HT.tM,ic,show (1:Int) > 0 by decide,if_true];by_cases h:i<0
   ·simp only [h,if_true] <;> omega
   ·simp only [h,if_false] <;> omega
 ·cases hi with
  | none=>simp [sliceBounds,HT.tM]
  | some i =>
   simp only [sliceBounds,HT.tM,ic,show (1:Int) > 0 by decide,if_true];by_cases h:i<0
   ·simp only [h,if_true] <;> omega
   ·simp only [h,if_false] <;> omega
theorem x0 (its:List Value)(lo hi:Option Int):slicePick its.toArray lo hi none=((its.drop (HT.tM its.length 0 lo)).take (HT.tM its.length its.length hi-HT.tM its.length 0 lo)).toArray:=by
 obtain ⟨h1,h2,h3⟩:=yQ lo hi its.toArray.size;unfold slicePick;rw [h1,h2,h3];simp only [sliceRange_one,pick_run,ai] <;> rfl
def Mj (K:Frag):V->Option Int->Option Int->Hp->VK->Prop:=fun x lo hi H Q=>∃ a xs,x = .ref a/\SqL K H a xs/\∀ p,H p=none->Q (.ref p) (tN H p (.lst (AL xs lo hi)))
theorem sl_list:SlR X (Mj X.K):=by
 intro pins s σ H x v vl vu lo hi sl Q I rx hs pl pu h;obtain ⟨a,xs,rfl,hx,q⟩:=h;cases rx;obtain ⟨its,r,ht,hz⟩:=I.list hx;have hlen:=r.length;refine ⟨"list",_,slot_list_getitem.lookup,ht.isList.typeIs,?_⟩;refine wpAny_getItem_list_slice ht.isList hs pl pu .none (by simp) ?_ (by rw [ai] <;> omega);rw [x0,← hlen];refine ⟨.ref s.heap.objs.size,_,I.laid (t':=s.toks) (o:=.lst (AL xs lo hi)) (fun b ob q=>Heap.get?_push_of_some _ q) (am _) ?_,rfl,q _ (I.hok.fresh (am _))⟩;exact ⟨aH (wV xs lo hi) hz,_,0,(r.drop (HT.tM xs.length 0 lo)).take (HT.tM xs.length xs.length hi-HT.tM xs.length 0 lo),Heap.get?_push_size _ rfl⟩
def vw:V->Bool
 | .non=>true
 | .bl _=>true
 | .int _=>true
 | .str _=>true
 | _=>false
def Ic:V->V->Bool
 | .non,.non=>true
 | .bl a,.bl b=>a == b
 | .bl a,.int b=>(if a then 1 else 0) == b
 | .int a,.bl b=>a == (if b then 1 else 0)
 | .int a,.int b=>a == b
 | .str a,.str b=>a == b
 | _,_=>false
theorem JN {A:Around}{s:Shared}{y x:V}{u v:Value}(ry:RelV y u)(rx:RelV x v)(fy:vw y=true)(fx:vw x=true):SeqAt.EqAt A s u v (Ic y x):=by
 cases y with
 | non =>
  cases ry;cases x with
  | non=>cases rx;exact SeqAt.EqAt.same _
  | bl b=>cases rx;exact SeqAt.EqAt.none_bool b
  | int b=>obtain ⟨t,rfl⟩:=rx;exact SeqAt.EqAt.none_int b t
  | str b=>obtain ⟨t,rfl⟩:=rx;exact SeqAt.EqAt.none_str b t
  | _=>exact absurd (show false=true from fx) aF
 | bl a =>
  cases ry;cases x with
  | non=>cases rx;exact SeqAt.EqAt.bool_none a
  | bl b=>cases rx;exact SeqAt.EqAt.bool_bool a b
  | int b=>obtain ⟨t,rfl⟩:=rx;exact SeqAt.EqAt.bool_int a b t
  | str b=>obtain ⟨t,rfl⟩:=rx;exact SeqAt.EqAt.bool_str a b t
  | _=>exact absurd (show false=true from fx) aF
 | int a =>
  obtain ⟨t',rfl⟩:=ry;cases x with
  | non=>cases rx;exact SeqAt.EqAt.int_none a t'
  | bl b=>cases rx;exact SeqAt.EqAt.int_bool a t' b
  | int b=>obtain ⟨t,rfl⟩:=rx;exact SeqAt.EqAt.int_int a t' b t
  | str b=>obtain ⟨t,rfl⟩:=rx;exact SeqAt.EqAt.int_str a t' b t
  | _=>exact absurd (show false=true from fx) aF
 | str a =>
  obtain ⟨t',rfl⟩:=ry;cases x with
  | non=>cases rx;exact SeqAt.EqAt.str_none a t'
  | bl b=>cases rx;exact SeqAt.EqAt.str_bool a t' b
  | int b=>obtain ⟨t,rfl⟩:=rx;exact SeqAt.EqAt.str_int a t' b t
  | str b=>obtain ⟨t,rfl⟩:=rx;exact SeqAt.EqAt.str_str a t' b t
  | _=>exact absurd (show false=true from fx) aF
 | _=>exact absurd (show false=true from fy) aF
def By (x:V)(u:Value):Bool:=match u with
 | .none=>Ic .non x
 | .bool b=>Ic (.bl b) x
 | .int i _=>Ic (.int i) x
 | .str z _=>Ic (.str z) x
 | _=>false
theorem Fa {x y:V}{u:Value}(r:RelV y u)(f:vw y=true):By x u=Ic y x:=by
 cases y with
 | non=>cases r;rfl
 | bl b=>cases r;rfl
 | int i=>obtain ⟨t,rfl⟩:=r;rfl
 | str z=>obtain ⟨t,rfl⟩:=r;rfl
 | _=>exact absurd (show false=true from f) aF
theorem v8 {x:V}:∀ {xs:List V} {us:List Value},Vals xs us->xs.all vw=true->us.any (By x)=xs.any fun y=>Ic y x
 | _,_,.nil,_=>rfl
 | y::xs,u::us,.cons r t,f=>by
  rw [ft,bN] at f;rw [gL,gL,Fa r f.1,v8 t f.2]
theorem uQ {A:Around}{s:Shared}{x:V}{v:Value}(rx:RelV x v)(fx:vw x=true):∀ {xs:List V} {us:List Value},Vals xs us->xs.all vw=true->∀ u∈us,SeqAt.EqAt A s u v (By x u)
 | _,_,.nil,_=>fun u hu=>by cases hu
 | y::xs,u::us,.cons r t,f=>fun u' hu=>by
  rw [ft,bN] at f;rcases au.mp hu with rfl | hu
  ·rw [Fa r f.1];exact JN r rx f.1 fx
  ·exact uQ rx fx t f.2 u' hu
def J9 (x:V)(xs:List V):Bool:=xs.any fun y=>Ic y x
def Mm (K:Frag)(neg:Bool):R2:=fun x y H Q=>∃ p xs,y = .ref p/\(SqL K H p xs\/SqT K H p xs)/\vw x=true/\xs.all vw=true/\Q (.bl (if neg then !J9 x xs else J9 x xs)) H
theorem De:OpR X (compareOp .In) (Mm X.K false):=by
 intro pins s σ H x y v u Q I rx ry h;obtain ⟨p,xs,rfl,hq,fx,fs,q⟩:=h;cases ry;rcases hq with hq | hq
 ·obtain ⟨its,r,pl,hz⟩:=I.list hq;refine SeqAt.in_listAt (By x) pl.isList (fun w hw=>uQ rx fx r fs w (by simpa using hw)) ⟨.bl _,H,I,rfl,?_⟩;rw [show its.toArray.any (By x)=its.any (By x) by simp,v8 r fs];exact q
 ·obtain ⟨its,r,pl,hz⟩:=I.tuple hq;refine SeqAt.in_tupleAt (By x) pl (fun w hw=>uQ rx fx r fs w (by simpa using hw)) ⟨.bl _,H,I,rfl,?_⟩;rw [show its.toArray.any (By x)=its.any (By x) by simp,v8 r fs];exact q
theorem yY:OpR X (compareOp .NotIn) (Mm X.K true):=by
 intro pins s σ H x y v u Q I rx ry h;obtain ⟨p,xs,rfl,hq,fx,fs,q⟩:=h;cases ry;rcases hq with hq | hq
 ·obtain ⟨its,r,pl,hz⟩:=I.list hq;refine SeqAt.notIn_listAt (By x) pl.isList (fun w hw=>uQ rx fx r fs w (by simpa using hw)) ⟨.bl _,H,I,rfl,?_⟩;rw [show its.toArray.any (By x)=its.any (By x) by simp,v8 r fs];exact q
 ·obtain ⟨its,r,pl,hz⟩:=I.tuple hq;refine SeqAt.notIn_tupleAt (By x) pl (fun w hw=>uQ rx fx r fs w (by simpa using hw)) ⟨.bl _,H,I,rfl,?_⟩;rw [show its.toArray.any (By x)=its.any (By x) by simp,v8 r fs];exact q
theorem zJ:CallR X (.builtin "len") (fun xs H Q=>∃ p ys,xs=[.ref p]/\(SqL X.K H p ys\/SqT X.K H p ys)/\Q (.int ys.length) H):=by
 intro pins s σ H xs us Q I r h;obtain ⟨p,ys,rfl,hq,q⟩:=h;obtain ⟨u,rfl,rx⟩:=wE r;cases rx;have hn:=uo;rcases hq with hq | hq
 ·obtain ⟨its,r',pl,hz⟩:=I.list hq;have hlen:=r'.length;exact Calls.call_len_list pl.isList (by simp only [ai] <;> omega) ⟨.int ys.length,H,I.tok _,⟨s.toks+1,by rw [ai,hlen]⟩,q⟩
 ·obtain ⟨its,r',pl,hz⟩:=I.tuple hq;have hlen:=r'.length;exact len_tuple pl (by simp only [ai] <;> omega) ⟨.int ys.length,H,I.tok _,⟨s.toks+1,by rw [ai,hlen]⟩,q⟩
theorem zI:CallR X (.builtin "len") (fun xs H Q=>∃ z,xs=[.str z]/\z.length<=sizeLine/\Q (.int z.length) H):=by
 intro pins s σ H xs us Q I r h;obtain ⟨z,rfl,hz,q⟩:=h;obtain ⟨u,rfl,t,rfl⟩:=wE r;have hn:=uo;exact len_str (by omega) ⟨.int z.length,H,I.tok _,⟨_,rfl⟩,q⟩
theorem zE:CallR X (.type "list") (fun xs H Q=>∃ p ys,xs=[.ref p]/\(SqL X.K H p ys\/SqT X.K H p ys)/\∀ l,H l=none->Q (.ref l) (tN H l (.lst ys))):=by
 intro pins s σ H xs us Q I r h;obtain ⟨p,ys,rfl,hq,q⟩:=h;obtain ⟨u,rfl,rx⟩:=wE r;cases rx;have fin:∀ (its:List Value),Vals ys its->ys.length<=sizeLine->∀ (h':Heap) (c':Nat),(∀ b o',s.heap.get? b=some o'->h'.get? b=some o') ->
   h'.get? s.heap.objs.size=some { cls:=.type "list",dict:=none,data:=.seq its.toArray c',slots:=#[] }->EP X pins σ Q (.ref s.heap.objs.size) { s with heap:=h' }:=fun its r' hz h' c' kp e =>
  ⟨.ref s.heap.objs.size,_,I.laid (t':=s.toks) kp (am _) (show ObjOk X.prog X.w _ h' _ (.lst ys) from ⟨hz,its,c',r',e⟩),rfl,q _ (I.hok.fresh (am _))⟩
 rcases hq with hq | hq
 ·obtain ⟨its,r',pl,hz⟩:=I.list hq;have hlen:=r'.length;obtain ⟨o,ho,hc,n,hd⟩:=pl.isList;exact call_list_seq p (.inl rfl) ho hc hd (fun h' c' kp e=>fin its r' hz h' c' kp e) (by simp only [ai] <;> omega)
 ·obtain ⟨its,r',pl,hz⟩:=I.tuple hq;have hlen:=r'.length;obtain ⟨o,ho,hc,n,hd⟩:=pl;exact call_list_seq p (.inr rfl) ho hc hd (fun h' c' kp e=>fin its r' hz h' c' kp e) (by simp only [ai] <;> omega)
theorem ya:CallR X (.type "tuple") (fun xs H Q=>∃ p ys,xs=[.ref p]/\((SqL X.K H p ys/\∀ l,H l=none->Q (.ref l) (tN H l (.tup ys)))\/(SqT X.K H p ys/\Q (.ref p) H))):=by
 intro pins s σ H xs us Q I r h;obtain ⟨p,ys,rfl,h⟩:=h;obtain ⟨u,rfl,rx⟩:=wE r;cases rx;rcases h with ⟨hq,q⟩ | ⟨hq,q⟩
 ·obtain ⟨its,r',pl,hz⟩:=I.list hq;have hlen:=r'.length;refine call_tuple_list pl.isList (fun h' kp=>?_) (by simp only [ai] <;> omega);have I1:Inv X pins σ H { s with heap:=h' }:=I.kept (t':=s.toks) kp;have I2:Inv X pins σ (tN H h'.objs.size (.tup ys)) { s with heap:=h'.push { cls:=.type "tuple",data:=.seq its.toArray } } :=
   I1.laid (t':=s.toks) (fun b o e=>Heap.get?_push_of_some _ e) (am _) (show ObjOk X.prog X.w _ _ _ (.tup ys) from ⟨hz,its,r',IsTup.new _ _⟩)
  exact ⟨.ref h'.objs.size,_,I2,rfl,q _ (I1.hok.fresh (am _))⟩
 ·obtain ⟨its,r',pl,hz⟩:=I.tuple hq;exact call_tuple_same pl ⟨.ref p,H,I,rfl,q⟩
def LX (K:Frag)(T:String)(x:V)(H:Hp):Prop:=match x with
 | .str _=>T = "str"
 | .int _=>T = "int"
 | .ref p=>(T = "list" /\ ∃ xs,SqL K H p xs)\/(T = "tuple" /\ ∃ o,K.lookup p=some o/\o.cls = .type "tuple" /\ o.dict=none) \/
   (T = "dict" /\ ((∃ kvs,H p=some (.dK kvs))\/∃ kvs,H p=some (.dT kvs)))\/(T = "set" /\ ∃ S n,H p=some (.set S n))
 | _=>False
theorem DO {pins:List (Addr×Obj)}{σ:St}{H:Hp}{s:Shared}{T:String}{x:V}{v:Value}(I:Inv X pins σ H s)(r:RelV x v)(ty:LX X.K T x H) :
  s.TypeIs v T/\∀ a,v = .ref a->∃ ob,s.heap.get? a=some ob/\ob.dict=none:=by
 cases x with
 | str z =>
  obtain ⟨t,rfl⟩:=r;cases (show T = "str" from ty);exact ⟨typeIs_str s z t,fun _ e=>nomatch e⟩
 | int i =>
  obtain ⟨t,rfl⟩:=r;cases (show T = "int" from ty);exact ⟨typeIs_int s i t,fun _ e=>nomatch e⟩
 | ref p =>
  cases r;rcases ty with ⟨rfl,xs,hq⟩ | ⟨rfl,o,hk,hc,hd⟩ | ⟨rfl,hk⟩ | ⟨rfl,S,n,hk⟩
  ·obtain ⟨its,_,pl,_⟩:=I.list hq;refine ⟨pl.isList.typeIs,fun a e=>?_⟩;cases e;obtain ⟨o,n,e,c,hd,_⟩:=pl;exact ⟨o,e,hd⟩
  ·refine ⟨⟨o,I.kIn p o hk,hc⟩,fun a e=>?_⟩;cases e;exact ⟨o,I.kIn _ o hk,hd⟩
  ·have z:∃ o,s.heap.get? p=some o/\o.ExactDict:=by
    rcases hk with ⟨kvs,hk⟩ | ⟨kvs,hk⟩
    ·obtain ⟨_,_,_,_,o,_,_,e,ex,_⟩:=I.hok p _ hk;exact ⟨o,e,ex⟩
    ·obtain ⟨_,_,_,_,o,_,_,e,ex,_⟩:=I.hok p _ hk;exact ⟨o,e,ex⟩
   obtain ⟨o,e,ex⟩:=z;refine ⟨⟨o,e,ex.1⟩,fun a e2=>?_⟩;cases e2;exact ⟨o,e,ex.2.1⟩
  ·obtain ⟨o,_,_,_,e,ex,_⟩:=I.hok p _ hk;refine ⟨⟨o,e,ex.1⟩,fun a e2=>?_⟩;cases e2;exact ⟨o,e,ex.2.1⟩
 | _=>exact False.elim ty
def Mb (K:Frag)(T:String)(r:V->List V->Hp->VK->Prop)(to:TE):TE:=fun σ H Q=>to σ H fun x H1=>LX K T x H1/\r x [] H1 Q
def Nk (K:Frag)(T:String)(r:V->List V->Hp->VK->Prop)(to:TE)(t:TA):TE:=fun σ H Q=>to σ H fun x H1=>LX K T x H1/\t σ H1 fun xs H2=>r x xs H2 Q
variable {o e:Expr}{es:List Expr}{to:TE}{t:TA}{name:Str}{apos cpos:Pos}{T id:String}{r:V->List V->Hp->VK->Prop}
theorem Bk (pa:PlainAttrs T) (slot:Slot T name id) (hty:typeOf (.builtin id)=pure (.type "method_descriptor")) (hm:Na X id r) (ho:PE X o to)
  (hbase:attributeBase o name X.env (eval o X.env)=eval o X.env:=by rfl) (hline:(apos.endLine == cpos.line)=true:=by rfl):PE X (.Call (.Attribute o name apos) [] [] cpos) (Mb X.K T r to):=by
 intro pins s σ H Q I h;refine wpAny_Call_method0_late hbase hline (tv (ho pins s σ H _ I h) fun v s1 ⟨x,H1,I1,r1,ty,q1⟩=>?_);obtain ⟨h1,h2⟩:=DO I1 r1 ty;exact ⟨T,id,pa,slot,hty,h1,h2,Calls.callWith_builtin rfl (PySem.evalArgs_none (hm pins s1 σ H1 x [] v [] Q I1 r1 .nil q1))⟩
theorem HF (pa:PlainAttrs T) (slot:Slot T name id) (hty:typeOf (.builtin id)=pure (.type "method_descriptor")) (hm:Na X id r) (ho:PE X o to) (ha:PA X (e::es) t)
  (hbase:attributeBase o name X.env (eval o X.env)=eval o X.env:=by rfl)
  (hfew:((backTo cpos (starEach (e::es) X.env)).all (fun x => !x.1) && (backToKw cpos (keywordEach [] X.env)).all (fun x=>x.1.isSome)
   && decide ((e::es).length+([]:List Keyword).length+(if ([]:List Keyword).isEmpty then 0 else 1)<30))=true:=by rfl)
  (hline:(apos.endLine == cpos.line)=true:=by rfl) (hs:starEach (e::es) X.env=(false,eval e X.env)::starEach es X.env:=by rfl) (hplain:(backTo cpos (starEach es X.env)).any (·.1)=false:=by rfl) :
  PE X (.Call (.Attribute o name apos) (e::es) [] cpos) (Nk X.K T r to t):=by
 intro pins s σ H Q I h;refine wpAny_Call_method_late hbase hfew hline rfl (tv (ho pins s σ H _ I h) fun v s1 ⟨x,H1,I1,r1,ty,q1⟩=>?_);obtain ⟨h1,h2⟩:=DO I1 r1 ty;refine ⟨T,id,pa,slot,hty,h1,h2,?_⟩;have hA:=ha cpos pins s1 σ H1 _ I1 q1;rw [hs] at hA ⊢;refine Calls.callWith_builtin (by show (false || (backTo cpos (starEach es X.env)).any (·.1))=false;rw [hplain] <;> rfl) (Calls.evalArgs_plain ?_);exact tv hA fun us s2 ⟨vs,H2,I2,r2,q2⟩=>hm pins s2 σ H2 x vs v us Q I2 r1 r2 q2
end
end L2
namespace L2
open PySem PySem.Spec PyProof.Rows
def LU (X:Cx)(id:String)(r:V->List V->Hp->VK->Prop):Prop :=
 ∀ (pins:List (Addr×Obj)) (s:Shared) (σ:St) (H:Hp) (x:V) (xs:List V) (v:Value) (us:List Value) (Q:VK),Inv X pins σ H s->RelV x v->Vals xs us->r x xs H Q ->
  wpAny (model X.prog X.w) X.A (call (.builtin id) (v::us)) (EP X pins σ Q) X.xe s
theorem Vals.one:∀ {x:V} {us:List Value},Vals [x] us->∃ u,us=[u]/\RelV x u
 | _,_,.cons r .nil=>⟨_,rfl,r⟩
theorem Vals.zero:∀ {us:List Value},Vals [] us->us=[]
 | _,.nil=>rfl
theorem Vals.dropLast {xs:List V}{us:List Value}(h:Vals xs us):Vals xs.dropLast us.dropLast:=by
 induction h with
 | nil=>exact .nil
 | cons r t ih =>
  cases t with
  | nil=>exact .nil
  | cons q t'=>exact .cons r ih
theorem Vals.reverse {xs:List V}{us:List Value}(h:Vals xs us):Vals xs.reverse us.reverse:=by
 induction h with
 | nil=>exact .nil
 | cons r t ih=>rw [dU,dU];exact Vals.append ih (.cons r .nil)
theorem Vals.rep {xs:List V}{us:List Value}(h:Vals xs us):∀ k:Nat,Vals (List.replicate k xs).flatten (List.replicate k us).flatten
 | 0=>.nil
 | k+1=>by
  rw [bB,bB,cF,cF];exact Vals.append h (Vals.rep h k)
theorem Bx {α:Type}(l:List α):l.eraseIdx (l.length-1)=l.dropLast:=by
 induction l with
 | nil=>rfl
 | cons a r ih =>
  cases r with
  | nil=>rfl
  | cons b r =>
   have e:(a::b::r).length-1=((b::r).length-1)+1:=by
    have h1:(a::b::r).length=r.length+2:=rfl;have h2:(b::r).length=r.length+1:=rfl;omega
   rw [e,List.eraseIdx_cons_succ,ih];all_goals rfl
theorem wu (its:List Value):∀ (k:Nat) (acc:List Value),
  List.foldl (fun x1 x2=>x1++x2) acc.toArray (List.replicate k its.toArray)=(acc++(List.replicate k its).flatten).toArray
 | 0,acc=>by simp
 | k+1,acc=>by
  have e:acc.toArray++its.toArray=(acc++its).toArray:=by simp
  have e2:(acc++its)++(List.replicate k its).flatten=acc++(List.replicate (k+1) its).flatten:=by
   rw [bB,cF,List.append_assoc]
  rw [← e2,← wu its k (acc++its),← e,bB,List.foldl_cons]
section
variable {X:Cx}{pins:List (Addr×Obj)}{σ:St}{H:Hp}{s:Shared}{l b:Addr}{xs ys zs:List V}
theorem Inv.lset {its its':List Value}{n:Nat}{f:Array Value->Array Value}{t':Nat}(I:Inv X pins σ H s)(hH:H l=some (.lst xs))
  (e:s.heap.get? l=some { cls:=.type "list",data:=.seq its.toArray n }) (hf:f its.toArray=its'.toArray) (hv:Vals ys its') (hz:ys.length<=sizeLine) :
  Inv X pins σ (tN H l (.lst ys)) { s with heap:=s.heap.update l (Obj.mapSeq f),toks:=t' }:=by
 have q:=PySem.IsL.update e f;rw [hf] at q;refine I.write (x:=l) (e:=l) (by rw [hH];exact trivial) (.inl rfl) (fun b' u hb hu=>(Heap.get?_update_other s.heap (Obj.mapSeq f) (Ne.symm hb)).trans hu) ⟨_,q⟩ ?_;exact ⟨hz,its',_,hv,q⟩
theorem Inv.lnew {its:List Value}{t':Nat}(I:Inv X pins σ H s)(hv:Vals ys its)(hz:ys.length<=sizeLine) :
  Inv X pins σ (tN H s.heap.objs.size (.lst ys)) { s with heap:=s.heap.push { cls:=.type "list",data:=.seq its.toArray },toks:=t' } :=
 I.laid (fun _ _ q=>Heap.get?_push_of_some _ q) (am _) ⟨hz,its,0,hv,Heap.get?_push_size _ rfl⟩
theorem Inv.fresh (I:Inv X pins σ H s):H s.heap.objs.size=none:=I.hok.fresh (am _)
theorem Inv.lstM (I:Inv X pins σ H s)(hH:H l=some (.lst xs)):xs.length<=sizeLine/\∃ (its:List Value) (n:Nat),Vals xs its/\xs.length=its.length/\s.heap.get? l=some { cls:=.type "list",data:=.seq its.toArray n }:=by
 obtain ⟨z,its,n,r,e⟩:=I.hok l _ hH;exact ⟨z,its,n,r,r.length,e⟩
theorem As {n:Nat}(h:n<=sizeLine):Builtin.List.listTooLong n=false:=by
 unfold Builtin.List.listTooLong;exact decide_eq_false (by omega)
end
section
variable {X:Cx}
def F8:V->List V->Hp->VK->Prop:=fun x vs H Q=>∃ l xs y,x = .ref l/\vs=[y]/\H l=some (.lst xs)/\xs.length<sizeLine/\Q .non (tN H l (.lst (xs++[y])))
theorem Do:LU X "list.append" F8:=by
 intro pins s σ H x vs v us Q I rx rv h;obtain ⟨l,xs,y,rfl,rfl,hH,hz,q⟩:=h;cases rx;obtain ⟨u,rfl,ru⟩:=rv.one;obtain ⟨z,its,n,r,hl,e⟩:=I.lstM hH;refine call_meets F.slot_list_append ⟨_,e,rfl⟩ F.entry_list_append (F.args_list_append_2 _ _) (PySem.list_append l its.toArray n u (by rw [ai];omega)) ⟨e,?_⟩;refine ⟨.non,_,I.lset (its':=its++[u]) hH e (by simp) (r.append (.cons ru .nil)) ?_,rfl,q⟩;rw [aD,gU];omega
def F7:V->List V->Hp->VK->Prop:=fun x vs H Q=>∃ l b xs zs,x = .ref l/\vs=[.ref b]/\H l=some (.lst xs)/\H b=some (.lst zs)/\xs.length+zs.length<=sizeLine/\Q .non (tN H l (.lst (xs++zs)))
theorem Dn:LU X "list.extend" F7:=by
 intro pins s σ H x vs v us Q I rx rv h;obtain ⟨l,b,xs,zs,rfl,rfl,hH,hB,hz,q⟩:=h;cases rx;obtain ⟨u,rfl,ru⟩:=rv.one;cases ru;obtain ⟨z,its,n,r,hl,e⟩:=I.lstM hH;obtain ⟨z2,its2,n2,r2,hl2,e2⟩:=I.lstM hB;have hsz:its.toArray.size+its2.toArray.size<=sizeLine:=by rw [ai,ai];omega
 have hlong:¬ (!its.toArray.isEmpty && Builtin.List.listTooLong (its.toArray.size+its2.toArray.size))=true:=by
  rw [As hsz,Bool.and_false];exact aF
 refine call_meets F.slot_list_extend ⟨_,e,rfl⟩ F.entry_list_extend (F.args_list_extend_2 _ _)
  (AutoSeq1.list_extend_list_list_0 l its.toArray n b its2.toArray n2 hlong (by rw [ai];omega) (by omega)) ⟨e,e2,?_⟩
 refine ⟨.non,_,I.lset (its':=its++its2) hH e (by simp) (r.append r2) ?_,rfl,q⟩;rw [aD];omega
def Ml:V->List V->Hp->VK->Prop:=fun x vs H Q=>∃ l xs y,x = .ref l/\vs=[]/\H l=some (.lst xs)/\xs[xs.length-1]? = some y/\Q y (tN H l (.lst xs.dropLast))
theorem EO:LU X "list.pop" Ml:=by
 intro pins s σ H x vs v us Q I rx rv h;obtain ⟨l,xs,y,rfl,rfl,hH,hy,q⟩:=h;cases rx;have hus:=rv.zero;subst hus;obtain ⟨z,its,n,r,hl,e⟩:=I.lstM hH;obtain ⟨u,hu,ru⟩:=r.get hy;have hy':its.toArray[its.toArray.size-1]? = some u:=by
  show its.toArray[its.length-1]? = some u;rw [← Array.getElem?_toList,← hl];exact hu
 refine call_meets F.slot_list_pop ⟨_,e,rfl⟩ F.entry_list_pop (F.args_list_pop_1 _) (MeetsSeq.list_pop_last l its.toArray n u hy' (by rw [ai];omega)) ⟨e,?_⟩;refine ⟨y,_,I.lset (its':=its.dropLast) hH e ?_ r.dropLast ?_,ru,q⟩
 ·show its.toArray.eraseIdxIfInBounds (its.toArray.size-1)=its.dropLast.toArray;rw [ai,List.eraseIdxIfInBounds_toArray,Bx]
 ·rw [dJ];omega
def Mn:R2:=fun x y H Q=>∃ l b xs zs,x = .ref l/\y = .ref b/\H l=some (.lst xs)/\H b=some (.lst zs)/\xs.length+zs.length<=sizeLine/\∀ p,H p=none->Q (.ref p) (tN H p (.lst (xs++zs)))
theorem Js:OpR X (binaryOp .Add) Mn:=by
 intro pins s σ H x y v u Q I rx ry h;obtain ⟨l,b,xs,zs,rfl,rfl,hH,hB,hz,q⟩:=h;cases rx;cases ry;obtain ⟨z,its,n,r,hl,e⟩:=I.lstM hH;obtain ⟨z2,its2,n2,r2,hl2,e2⟩:=I.lstM hB;refine PySem.P.add_list e e2 ?_ (by rw [ai,ai];omega);have ea:its.toArray++its2.toArray=(its++its2).toArray:=by simp
 rw [ea];exact ⟨.ref _,_,I.lnew (t':=s.toks) (r.append r2) (by rw [aD];omega),rfl,q _ I.fresh⟩
def Mk:R2:=fun x y H Q=>∃ l k xs,x = .ref l/\y = .int k/\H l=some (.lst xs) /\ -(2^63)<=k/\k<2^63/\xs.length*k.toNat<=sizeLine /\
 ∀ p,H p=none->Q (.ref p) (tN H p (.lst (List.replicate k.toNat xs).flatten))
theorem zd {α:Type}(xs:List α)(k:Nat):(List.replicate k xs).flatten.length=k*xs.length:=by
 induction k with
 | zero=>simp
 | succ k ih=>rw [bB,cF,aD,ih,bo,Nat.add_comm]
theorem EI:OpR X (binaryOp .Mult) Mk:=by
 intro pins s σ H x y v u Q I rx ry h;obtain ⟨l,k,xs,rfl,rfl,hH,h1,h2,hz,q⟩:=h;cases rx;obtain ⟨t,rfl⟩:=ry;obtain ⟨z,its,n,r,hl,e⟩:=I.lstM hH;have hlen:its.toArray.size*k.toNat<=sizeLine:=by rw [ai,← hl];exact hz
 have hcap:¬ its.toArray.size*k.toNat > (2^63-1) / 8:=by
  have:(sizeLine:Nat)<=(2^63-1) / 8:=by decide
  omega
 have hfit:¬ (!Builtin.List.listFitsIndex k)=true:=by
  rw [fitsIndex_both h1 h2];exact aF
 have hlong:¬ Builtin.List.listTooLong (its.toArray.size*k.toNat)=true:=by
  rw [As hlen];exact aF
 have hnew:List.foldl (fun x1 x2=>x1++x2) #[] (List.replicate (if its.toArray.isEmpty=true then 0 else k.toNat) its.toArray)=(List.replicate k.toNat its).flatten.toArray:=by
  have f0:∀ m:Nat,List.foldl (fun x1 x2=>x1++x2) #[] (List.replicate m its.toArray)=(List.replicate m its).flatten.toArray:=fun m=>by
   have:=wu its m [];rw [List.nil_append] at this;exact this
  rw [f0];cases its with
  | nil=>simp
  | cons a r'=>rw [if_neg (by simp)]
 refine wpAny_binaryOp_repeat_ref (T := "list") (U := "int") (by decide) ⟨_,e,rfl⟩ (fun s'=>typeIs_int s' k t) noFill_list_mul F.fills_int_mul F.slot_int_rmul repeat_list F.slot_int_index.lookup
  (call_meets F.slot_int_rmul (typeIs_int s k t) F.entry_int_rmul (F.args_int_rmul_2 _ _) (int___rmul___int_list k t l its.toArray n)
   ⟨e,rfl,⟨_,e,rfl⟩,call_meets F.slot_list_mul ⟨_,e,rfl⟩ F.entry_list_mul (F.args_list_mul_2 _ _) (AutoListH.list___mul___list_int_3 l its.toArray n k t hfit hcap hlong) ⟨e,?_⟩⟩)
 rw [hnew];exact ⟨.ref _,_,I.lnew (t':=s.toks) (r.rep k.toNat) (by rw [zd,bQ];exact hz),rfl,q _ I.fresh⟩
end
section
variable {prog:Program}{w:World}{A:Around}{E:Value->Shared->Prop}{s:Shared}
set_option maxRecDepth 100000 in
end
end L2
namespace Att
open PySem PySem.W PySem.Calls PyProof.Rows
theorem wY {P:Params}{h:Heap}:∀ (ns:List Int) (vs:List Value),WellAll P h vs (ns.map WData.int)->IntsAre vs ns:=by
 intro ns;induction ns with
 | nil =>
  intro vs w;rw [List.map_nil] at w;cases w;exact .nil
 | cons n ns ih =>
  intro vs w;rw [eh] at w;cases w with
  | cons a b =>
   cases a;exact .cons _ _ (ih _ b)
theorem C4 {l:OpenLaw}{n:Nat}(hn:l.most=some n){P:Params}{h:Heap}{args:List WData}{vals:List Value}
  (hpre:l.row.toRowW.claim.pre args=true) (hwl:WellAll P h vals args) :
  ∃ a vs ns,vals=[Value.ref a]/\args=[WData.list (ns.map WData.int)]/\h.get? a=some { cls:=.type "list",data:=.seq vs.toArray }/\IntsAre vs ns/\ns.length<=n:=by
 have hsh:WShape.hasAll [] args [.list .int]=true:=(pre_splitW hpre).1;have hc:l.pre.holds [] { args:=args }=true:=(pre_splitW hpre).2;obtain ⟨d,r,rfl,h1,h2⟩:=hasAllW_cons hsh;obtain rfl:=hasAllW_nil h2;obtain ⟨xs,rfl,h3⟩:=hasW_list h1;obtain ⟨ns,rfl⟩:=items_int h3;have hlen:ns.length<=n:=by
  unfold OpenLaw.pre at hc;have h4:(WTm.not (.lt (.lit (.int (n:Int))) (.len (.arg 0)))).holds [] { args:=[.list (ns.map .int)] }=true:=by
   have h4:=(holds_andW hc).1;rw [hn] at h4;exact h4
  have h5:=condW_of h4 (w_not (w_lt w_lit (w_len_list (w_arg rfl))));rw [aa] at h5;refine Nat.le_of_not_lt fun q=>?_;have q':(n:Int)<((ns.length:Nat):Int):=by omega
  first
   | (rw [decide_eq_true q'] at h5;exact absurd h5 (by decide))
   | (simp at h5;omega)
 cases hwl with
 | cons w1 w2 =>
  cases w2;cases w1 with
  | list ho hall=>exact ⟨_,_,ns,rfl,rfl,ho,wY ns _ hall,hlen⟩
theorem C8 (l:OpenLaw)(args:List WData):l.row.toRowW.claim.post args (.bool true) args=true :=
 postW_of (r:=l.row.toRowW) (X:=(true == true))
  (show WShape.has [] (.bool true) .bool=true by first | rfl | decide | simp [WShape.has,WShape.arms,WShape.armsAll])
  (show (WTm.eq .res (.lit (.bool true))).value [] { args:=args,res:=some (.bool true),after:=args }=some (.bool (true == true)) from w_eq_bool (w_res rfl) w_lit) rfl
theorem AR {l:OpenLaw}{n:Nat}{q:Program}{loose:List Str}{XP:(Str->Option Value)->Heap->Prop}{YP:World->Heap->Prop}{d:DefRec}
  (hn:l.most=some n) (hdf:d.params.defaults=[])
  (call:∀ (w:World) (s₀ s₁:Shared) (mg mb:Str->Option Value) (fa:Addr) (o:Obj) (pm cd doc:Value) (a:Addr) (vs:List Value) (ns:List Int),
   Ground q loose [] XP w s₀ mg mb s₁.heap->YP w s₁.heap ->
   s₁.heap.get? fa=some o->o.data = .func (docDef d.name d.params d.body d.scope pm cd doc)->s₁.heap.CodeRec cd d.name->mg d.name=some (.ref fa) ->
   s₁.heap.get? a=some { cls:=.type "list",data:=.seq vs.toArray }->IntsAre vs ns->ns.length<=n->s₁.gens = #[] ->
   codeAny (model l.prog w) callerA (.call (.ref fa) ⟨[.ref a],[]⟩) (fun r s'=>r = .ok (.ret (.bool true))/\OldK s₁.heap s'.heap/\s'.os=s₁.os/\AllBare s'.gens) s₁) :
  WalkO q loose XP YP l.row.toRowW d [] (fun f vs=>PySem.call f vs):=by
 intro w s₀ s₁ mg mb G Y fa o pm cd doc dV kV ho hd hcd hD hmg hg args vals as hpre hlay hrd hwl hlo;obtain rfl:dV = .none:=Dflts.none hD hdf;obtain rfl:kV = .none:=Dflts.noKw hD;obtain ⟨a,vs,ns,rfl,rfl,hobj,hints,hlen⟩:=C4 hn hpre hwl;refine enter_call (codeAny_mono (call w s₀ s₁ mg mb fa o pm cd doc a vs ns G Y ho (fd_plain hd) hcd hmg hobj hints hlen hg) fun r s' hq=>?_);obtain ⟨rfl,h2,h3,h4⟩:=hq;exact ⟨.inl ⟨.bool true,.bool true,[],rfl,fun _=>rfl,.bool true,C8 l _,fun _=>⟨List.Pairwise.nil,fun _ hm=>(nomatch hm)⟩⟩,h2,h3,h4⟩
end Att
namespace L2
open PySem PySem.Spec PyProof.Rows
theorem yc:∀ {vs:List Value} {ns:List Int},IntsAre vs ns->Vals (ns.map V.int) vs
 | _,_,.nil=>.nil
 | _,_,.cons n t h=>.cons ⟨t,rfl⟩ (yc h)
def J6 (H:Hp):Prop:=∀ b,H b=none\/∃ o xs,H b=some (.frz o (.lst xs))
theorem EY {P:Program}{w:World}{K:Frag}{mg mb:Str->Option Value}{CX:FP}{k:Nat}{fa a:Addr}{fd:FuncData}{x:Str}{sp:Sp}{s₁:Shared}{vs:List Value}{ns:List Int}
  (KX:K.In s₁.heap) (hns:s₁.heap.Ns mainGlobals mg) (hb:s₁.heap.Ns builtinsNs mb) (hbb:∀ x:Str,x ≠ "__name__" -> mb x=bootBuiltins x) (hlim:s₁.heap.NoLimit) (hse:s₁.heap.NoSeer) (htr:P.given.tree=none) (hg:s₁.gens = #[])
  (ha:s₁.heap.get? a=some { cls:=.type "list",data:=.seq vs.toArray }) (hi:IntsAre vs ns) (hl:ns.length<=sizeLine) (hr:Room k callerA)
  (F:∀ base:Heap,K.In base->base.Ns mainGlobals mg->FnOk P w K mg base CX k fa fd [x] sp) (hbind:∀ (s:Shared) (u:Value),BindsTo s fd ⟨[u],[]⟩ [(x,u)])
  (hsp:∀ H:Hp,J6 H->SqL K H a (ns.map V.int)->sp [.ref a] H (fun v _=>v = .bl true) fun _ _ _=>False)
  (hCX:∀ H e s',CX [] H s₁ (fun _ _ _=>False) e s'->False) :
  codeAny (model P w) callerA (.call (.ref fa) ⟨[.ref a],[]⟩) (fun r s'=>r = .ok (.ret (.bool true))/\OldK s₁.heap s'.heap/\s'.os=s₁.os/\AllBare s'.gens) s₁:=by
 have rv:=yc hi;have lenV:=hi.length
 -- from an abstract heap in which nothing but the script may be tracked
 have core:∀ H:Hp,J6 H->SqL K H a (ns.map V.int)->HOk P w H s₁.heap->(∀ b,H b≠none->b=a)->(H a≠none->K.lookup a=none) ->
   codeAny (model P w) callerA (.call (.ref fa) ⟨[.ref a],[]⟩) (fun r s'=>r = .ok (.ret (.bool true))/\OldK s₁.heap s'.heap/\s'.os=s₁.os/\AllBare s'.gens) s₁:=by
  intro H hO hS hok hA hK;have base_of:∀ {b:Addr} {o:Obj},s₁.heap.get? b=some o->H b=none->(x8 s₁.heap H).get? b=some o:=fun e n=>E5 e n;have noA:∀ {b:Addr} {o:Obj} {es:Array DictEntry} {ep:Nat},s₁.heap.get? b=some o->o.data = .dict es ep->H b=none:=fun {b o es ep} e d=>by
   cases q:H b with
   | none=>rfl
   | some u =>
    have e':b=a:=hA b (by rw [q];simp);subst e';rw [ha] at e;cases e;have d':Data.seq vs.toArray _=Data.dict es ep:=d;cases d'
  have nsK:∀ {b:Addr} {m:Str->Option Value},s₁.heap.Ns b m->(x8 s₁.heap H).Ns b m:=fun {b m} ⟨o,es,ep,e,d,r⟩=>⟨o,es,ep,base_of e (noA e d),d,r⟩;have hKb:K.In (x8 s₁.heap H):=fun b o e=>base_of (KX b o e) (by
   cases q:H b with
   | none=>rfl
   | some u =>
    have e':b=a:=hA b (by rw [q];simp);subst e';rw [hK (by rw [q];simp)] at e;cases e)
  have hM:Mod K mg (x8 s₁.heap H):=⟨hKb,nsK hns,⟨mb,nsK hb,hbb⟩,let ⟨mc,h1,h2⟩:=hlim;⟨mc,nsK h1,h2⟩⟩;have hsr:(x8 s₁.heap H).NoSeer:=by
   obtain ⟨⟨mc,a1,b1⟩,⟨mm,a2,b2⟩,⟨mi,a3,b3⟩,⟨mq,bm,ob,a4,b4,c4,d4,e4⟩⟩:=hse;refine ⟨⟨mc,nsK a1,b1⟩,⟨mm,nsK a2,b2⟩,⟨mi,nsK a3,b3⟩,⟨mq,bm,ob,nsK a4,b4,base_of c4 ?_,d4,e4⟩⟩;cases q:H bm with
   | none=>rfl
   | some u =>
    have e':bm=a:=hA bm (by rw [q];simp);subst e';rw [ha] at c4;cases c4;exact absurd (show (Value.type "list")=Value.type "module" from d4) (by decide)
  have e0:Env0 P w K mg (x8 s₁.heap H) callerA [] s₁ H:=⟨rfl,hM,fun b o e=>Gw e,Nat.le_of_eq (Dw _ _),trivial,fun b hb=>absurd (show b∈([]:List Addr) from hb) (by simp),hok,.of_eq hg,hsr,htr⟩;refine codeAny_mono ((F _ hKb (nsK hns)).run callerA [] s₁ H ⟨[.ref a],[]⟩ [.ref a] [.ref a] _ _ hr e0 (hbind s₁ (.ref a)) (.cons rfl .nil) (hsp H hO hS)) fun r s' h=>?_;cases r with
  | error e=>exact (hCX H e s' h).elim
  | ok fl =>
   cases fl with
   | next=>exact False.elim h
   | brk=>exact False.elim h
   | cont=>exact False.elim h
   | ret u =>
    obtain ⟨v,H',os,bare,un,hok',r',q⟩:=h;have q':v = .bl true:=q;subst q';obtain rfl:u=Value.bool true:=r';refine ⟨rfl,OldK.of_keep fun b o e=>?_,os,bare⟩;cases q:H b with
    | none=>exact un.keep b o e q (by intro z;exact absurd (show b∈([]:List Addr) from z) (by simp)) (by simp)
    | some u =>
     rcases hO b with z | ⟨ob,xs,z⟩
     ·rw [q] at z;cases z
     ·have z2:=un.frzs b ob _ z;obtain ⟨e1,_⟩:=hok b _ z;obtain ⟨e2,_⟩:=hok' b _ z2;rw [e] at e1;cases e1;exact e2
 cases hk:K.lookup a with
 | some o =>
  -- the script is one of the module's own objects
  have e:=KX a o hk;rw [ha] at e;cases e;refine core (fun _=>none) (fun _=>.inl rfl) (.inr ⟨_,vs.toArray,_,hk,rfl,rfl,rfl,by rw [ai,lenV];exact hl,by simpa using rv⟩) (fun b u z=>by have z':(none:Option HO)=some u:=z;cases z') (fun b z=>absurd rfl z) fun z=>absurd rfl z
 | none =>
  refine core (fun b=>if b=a then some (.frz { cls:=.type "list",data:=.seq vs.toArray } (.lst (ns.map V.int))) else none) (fun b=>?_) (.inl (.inr ⟨{ cls:=.type "list",data:=.seq vs.toArray },if_pos rfl⟩)) (fun b u z=>?_) (fun b z=>?_) fun _=>hk
  ·by_cases hb:b=a
   ·exact .inr ⟨_,_,if_pos hb⟩
   ·exact .inl (if_neg hb)
  ·by_cases hb:b=a
   ·have z':=(if_pos hb).symm.trans z;cases z';subst hb;exact ⟨ha,by rw [aa];exact hl,vs,_,rv,ha⟩
   ·have z':=(if_neg hb).symm.trans z;cases z'
  ·by_cases hb:b=a
   ·exact hb
   ·exact absurd (if_neg hb) z
end L2
namespace L2
open PySem PySem.Spec PyProof.Rows
theorem FU {l:PySem.W.OpenLaw}{n k:Nat}{q:Program}{loose:List Str}{XP:(Str->Option Value)->Heap->Prop}{YP:World->Heap->Prop}{d:DefRec}{K:Params->Frag}{CX:World->FP}{sp:World->Sp}{x:Str}
  (hn:l.most=some n) (hn2:n<=sizeLine) (hdf:d.params.defaults=[]) (hr:Room k callerA)
  (hY:∀ (w:World) (h:Heap),YP w h->(K w.params).In h)
  (F:∀ (w:World) (mg:Str->Option Value) (fa:Addr) (h:Heap),(K w.params).In h->h.Ns mainGlobals mg->mg d.name=some (.ref fa) ->
   ∃ fd:FuncData,(∀ (s:Shared) (u:Value),BindsTo s fd ⟨[u],[]⟩ [(x,u)]) /\
    ∀ base:Heap,(K w.params).In base->base.Ns mainGlobals mg->FnOk l.prog w (K w.params) mg base (CX w) k fa fd [x] (sp w))
  (hsp:∀ (w:World) (H:Hp) (a:Addr) (ns:List Int),ns.length<=n->J6 H->SqL (K w.params) H a (ns.map V.int)->sp w [.ref a] H (fun v _=>v = .bl true) fun _ _ _=>False)
  (hCX:∀ (w:World) (H:Hp) (s:Shared) (e:Value) (s':Shared),CX w [] H s (fun _ _ _=>False) e s'->False) (hi:importsNone q=true:=by decide +kernel) (ht:l.prog.given.tree=none:=by rfl) :
  PySem.W.WalkO q loose XP YP l.row.toRowW d [] (fun f vs=>PySem.call f vs):=by
 refine Att.AR hn hdf fun w s₀ s₁ mg mb fa o pm cd doc a vs ns G Y ho hd hcd hmg hobj hints hlen hg=>?_;have KX:=hY w _ Y;obtain ⟨fd,hb,hF⟩:=F w mg fa _ KX G.T.g hmg;exact EY KX G.T.g G.T.b G.T.builtins G.T.nolimit (G.T.seer hi) ht hg hobj hints (aH hlen hn2) hr hF hb (fun H hO hS=>hsp w H a ns hlen hO hS) fun H e s'=>hCX w H s₁ e s'
end L2
namespace L2
open PySem PySem.Spec PyProof.Rows
def u9 (s:Stmt):Arguments:=match s with
 | .FunctionDef _ a _ _ _ _ _ _ _ _=>a
 | _=>{ posonlyargs:=[],args:=[],vararg:=none,kwonlyargs:=[],kw_defaults:=[],kwarg:=none,defaults:=[] }
def t3 (s:Stmt):List Stmt:=match s with
 | .FunctionDef _ _ b _ _ _ _ _ _ _=>b
 | _=>[]
def sP (s:Stmt):Scope:=match s with
 | .FunctionDef _ _ _ _ _ _ sc _ _ _=>sc
 | _=>{ kind:=.function,names:=[],isGenerator:=false,isCoroutine:=false }
abbrev DJ:FP:=fun _ _ _ _ _ _=>False
abbrev E0:XK:=fun _ _ _=>False
theorem KR {X:Cx}:BX DJ X E0:=fun _ _ _ _ _ _ _ h=>h.elim
structure Fun (K:Frag)(x qual:Str)(st:Stmt)(f:Addr)(fd:FuncData):Prop where
 ex:∃ (oc:Value) (od:Option Addr) (kV doc pm:Value) (an:Option Addr) (cdv ct:Value) (osl:Array (Option Value)),
  fd=PySem.W.fnOf x qual (u9 st) (t3 st) (sP st) .none kV doc pm an cdv ct/\K.lookup f=some ⟨oc,od,.func fd,osl⟩/\PySem.W.codeIn K cdv qual=true
 kp:PySem.W.keepIn K (.ref f)=true
section
variable {P:Program}{w:World}{K:Frag}{mg:Str->Option Value}{base:Heap}
theorem Fun.ok {x qual:Str}{st:Stmt}{f:Addr}{fd:FuncData}{N ps:List Str}{k:Nat}{sp:Sp}(F:Fun K x qual st f fd)(S:FnScope N ps (sP st))(len:∀ vs H Q E,sp vs H Q E->vs.length=ps.length)
  (hbody:∀ (cdv:Value) (A:Around) (outer:List Env) (s:Shared) (H:Hp) (vs:List V) (Q:VK) (E:XK),Room k (A.deeper (envOfC qual (sP st) s.heap.objs.size f cdv))->sp vs H Q E ->
   ∃ t,PSs (BK DJ P w K mg base N qual (sP st) f cdv A outer s H E).nox (t3 st) t/\t { nx:=fun _ H'=>Q .non H',rt:=Q } (start N vs) H):FnOk P w K mg base DJ (k+1) f fd ps sp:=by
 obtain ⟨oc,od,kV,doc,pm,an,cdv,ct,osl,rfl,lk,hcd⟩:=F.ex;refine La lk hcd S len fun A outer s H vs Q E hr hsp=>?_;obtain ⟨t,h,q⟩:=hbody cdv A outer s H vs Q E hr hsp;exact ⟨t,h.nox,q⟩
theorem Fun.binds {x qual:Str}{st:Stmt}{f:Addr}{fd:FuncData}{ps:List Str}(F:Fun K x qual st f fd)
  (h:∀ (kV doc pm:Value) (an:Option Addr) (cdv ct:Value) (us:List Value),us.length=ps.length->bindArgs (PySem.W.fnOf x qual (u9 st) (t3 st) (sP st) .none kV doc pm an cdv ct) ⟨us,[]⟩=pure (ps.zip us)):Binds K fd ps []:=by
 obtain ⟨oc,od,kV,doc,pm,an,cdv,ct,osl,rfl,lk,hcd⟩:=F.ex;exact .all (h kV doc pm an cdv ct)
theorem JK {x qual:Str}{st:Stmt}{f:Addr}{oc:Value}{od an:Option Addr}{osl:Array (Option Value)}{kV doc pm cdv ct:Value}(l:K.lookup f=some ⟨oc,od,.func (PySem.W.fnOf x qual (u9 st) (t3 st) (sP st) .none kV doc pm an cdv ct),osl⟩)
  (c:PySem.W.codeIn K cdv qual=true) (k:PySem.W.keepIn K (.ref f)=true):Fun K x qual st f (PySem.W.fnOf x qual (u9 st) (t3 st) (sP st) .none kV doc pm an cdv ct):=⟨⟨oc,od,kV,doc,pm,an,cdv,ct,osl,rfl,l,c⟩,k⟩
end
section
variable {X:Cx}
theorem pv (i:Nat) {x:Str} {pos:Pos} (hN:X.N[i]? = some x:=by rfl) (hv:Io X.env.scope x:=by first | exact Or.inl rfl | exact Or.inr (Or.inl rfl) | exact Or.inr (Or.inr rfl)) (hd:(x == ("__debug__" : Str))=false:=by decide)
  (hcd:(x == ("__classdict__" : Str))=false:=by decide):PE X (.Name x pos) (vz i):=Bh hN hv hd hcd
end
theorem Mv {A B:Prop}(h:B):if false=true then A else B:=by
 rw [if_neg aF];exact h
theorem GQ {c A B:Prop}[Decidable c](h1:c->A)(h2:¬ c->B):if c then A else B:=by
 by_cases h:c
 ·rw [if_pos h];exact h1 h
 ·rw [if_neg h];exact h2 h
def Same (H H':Hp):Prop:=∀ b o,H b=some o->H' b=some o
theorem Same.trans {H H1 H2:Hp}(a:Same H H1)(b:Same H1 H2):Same H H2:=fun c o h=>b c o (a c o h)
theorem Same.seq {K:Frag}{H H':Hp}{a:Addr}{xs:List V}(e:Same H H')(h:SqL K H a xs):SqL K H' a xs:=by
 rcases h with (h | ⟨o,h⟩) | h
 ·exact .inl (.inl (e _ _ h))
 ·exact .inl (.inr ⟨o,e _ _ h⟩)
 ·exact .inr h
end L2
namespace L2
open PySem PySem.Spec PyProof.Rows
theorem tP {β:Type}:∀ {l:List (Str×β)} {x:Str} {k:β},l.lookup x=some k->(x,k)∈l
 | [],_,_,h=>by simp at h
 | (n,k')::r,x,k,h=>by
  rw [eO] at h;cases e:x == n with
  | true =>
   rw [e] at h;have e':x=n:=eq_of_beq e;have h':some k'=some k:=h;cases h';rw [e'];exact ar
  | false =>
   rw [e] at h;exact aw _ (tP h)
theorem za {β:Type}:∀ {l:List (Str×β)} {x:Str} {k:β},(x,k)∈l->∃ k',l.lookup x=some k'
 | [],_,_,h=>by simp at h
 | (n,k')::r,x,k,h=>by
  rw [eO];cases e:x == n with
  | true=>exact ⟨k',rfl⟩
  | false =>
   rcases au.mp h with q | q
   ·cases q;simp at e
   ·exact za q
def vL (env:Env)(x:Str)(k:NameKind):NameKind:=if (k == .free && env.scope.kind == .function && env.kindOf x == some .cell) then .cell else k
theorem vX {env:Env}{x:Str}:∀ {l:List (Str×NameKind)},
  (l.map fun (n,k)=>if (k == NameKind.free && env.scope.kind == .function && env.kindOf n == some .cell) then (n,NameKind.cell) else (n,k)).lookup x=(l.lookup x).map (vL env x)
 | []=>rfl
 | (n,k)::r=>by
  rw [eh];have ih:=@vX env x r;have e0:(match ((n,k):Str×NameKind) with | (n,k)=>if (k == NameKind.free && env.scope.kind == .function && env.kindOf n == some .cell) then (n,NameKind.cell) else (n,k))=(n,vL env n k):=by
   show (if (k == NameKind.free && env.scope.kind == .function && env.kindOf n == some .cell)=true then (n,NameKind.cell) else (n,k))=(n,vL env n k);unfold vL;split <;> rfl
  rw [e0,eO,eO];cases e:x == n with
  | true =>
   have e':x=n:=eq_of_beq e;subst e';rfl
  | false=>exact ih
def ub (cells:List (Str×Addr)):List (Str×NameKind)->List (Str×Addr)->List (Str×Addr)
 | [],acc=>acc
 | (n,k)::r,acc=>if k == .free then ub cells r ((n,(cells.lookup n).getD 0)::acc) else ub cells r acc
theorem uY {cells:List (Str×Addr)}:∀ {l:List (Str×NameKind)} {acc:List (Str×Addr)},(∀ y∈l,y.2 = .free->∃ c,cells.lookup y.1=some c)->(∀ p∈acc,cells.lookup p.1=some p.2) ->
  ∀ p∈ub cells l acc,cells.lookup p.1=some p.2
 | [],acc,_,ha,p,hp=>ha p hp
 | (n,k)::r,acc,hl,ha,p,hp=>by
  unfold ub at hp;have hl':∀ y∈r,y.2 = .free->∃ c,cells.lookup y.1=some c:=fun y hy=>hl y (aw _ hy);cases hk:k == NameKind.free with
  | true =>
   rw [hk,if_pos rfl] at hp;refine uY hl' (fun q hq=>?_) p hp;rcases au.mp hq with e | e
   ·subst e;obtain ⟨c,e⟩:=hl (n,k) ar (eq_of_beq hk);show cells.lookup n=some ((cells.lookup n).getD 0);rw [show cells.lookup n=some c from e];rfl
   ·exact ha q e
  | false =>
   rw [hk,if_neg aF] at hp;exact uY hl' ha p hp
theorem xT {cells:List (Str×Addr)}:∀ {l:List (Str×NameKind)} {acc:List (Str×Addr)} {p:Str×Addr},p∈acc->p∈ub cells l acc
 | [],_,_,h=>h
 | (n,k)::r,acc,p,h=>by
  unfold ub;split
  ·exact xT (aw _ h)
  ·exact xT h
theorem v5 {cells:List (Str×Addr)}:∀ {l:List (Str×NameKind)} {acc:List (Str×Addr)} {x:Str},(x,NameKind.free)∈l->∃ c,(x,c)∈ub cells l acc
 | [],_,_,h=>by simp at h
 | (n,k)::r,acc,x,h=>by
  unfold ub;rcases au.mp h with e | e
  ·cases e;rw [if_pos (by rfl)];exact ⟨_,xT ar⟩
  ·split
   ·exact v5 e
   ·exact v5 e
theorem vJ {env:Env}:∀ {l:List (Str×NameKind)} {acc:List (Str×Addr)},(∀ y∈l,y.2 = .free->∃ c,env.cells.lookup y.1=some c) ->
  (forIn l acc (fun (x:Str×NameKind) (r:List (Str×Addr))=>(if (x.2 == NameKind.free)=true then do let c ← cellOf env x.1;pure (ForInStep.yield ((x.1,c)::r)) else pure (ForInStep.yield r):Sem _)))=pure (ub env.cells l acc)
 | [],_,_=>rfl
 | (n,k)::r,acc,hl=>by
  have hl':∀ y∈r,y.2 = .free->∃ c,env.cells.lookup y.1=some c:=fun y hy=>hl y (aw _ hy);rw [List.forIn_cons];unfold ub;cases hk:k == NameKind.free with
  | true =>
   obtain ⟨c,e⟩:=hl (n,k) ar (eq_of_beq hk);have e':env.cells.lookup n=some c:=e;simp only [hk,if_true];rw [show cellOf env n=pure c by unfold cellOf;rw [e']];simp only [pure_bind];rw [vJ hl',e'];rfl
  | false =>
   simp only [hk,cK,if_false,pure_bind];exact vJ hl'
theorem wz {cells:List (Str×Addr)}:∀ {l:List (Str×NameKind)} {acc:List (Str×Addr)} {p:Str×Addr},p∈ub cells l acc->p∈acc\/(p.1,NameKind.free)∈l
 | [],_,_,h=>.inl h
 | (n,k)::r,acc,p,h=>by
  unfold ub at h;split at h
  ·rename_i hk;rcases wz h with z | z
   ·rcases au.mp z with e | e
    ·subst e;rw [eq_of_beq hk];exact .inr ar
    ·exact .inl e
   ·exact .inr (aw _ z)
  ·exact (wz h).imp id (aw _)
theorem BP:∀ {l:List (Str×NameKind)} {n:Nat} {acc:List (Str×Addr)} {p:Str×Addr},p∈cellsFrom n l acc->p∈acc\/(n<=p.2/\(p.1,NameKind.cell)∈l)
 | [],_,_,_,h=>.inl h
 | (x,k)::r,n,acc,p,h=>by
  unfold cellsFrom at h;split at h
  ·rename_i hk;rcases BP h with z | z
   ·rcases au.mp z with e | e
    ·subst e;rw [eq_of_beq hk];exact .inr ⟨am _,ar⟩
    ·exact .inl e
   ·exact .inr ⟨dg z.1,aw _ z.2⟩
  ·exact (BP h).imp id fun z=>⟨z.1,aw _ z.2⟩
theorem xU:∀ {l:List (Str×NameKind)} {n:Nat} {acc:List (Str×Addr)} {p:Str×Addr},p∈acc->p∈cellsFrom n l acc
 | [],_,_,_,h=>h
 | (x,k)::r,n,acc,p,h=>by
  unfold cellsFrom;split
  ·exact xU (aw _ h)
  ·exact xU h
theorem Fp:∀ {l:List (Str×NameKind)} {n:Nat} {acc:List (Str×Addr)} {x:Str},(x,NameKind.cell)∈l->∃ c,(x,c)∈cellsFrom n l acc
 | [],_,_,_,h=>by simp at h
 | (y,k)::r,n,acc,x,h=>by
  unfold cellsFrom;rcases au.mp h with e | e
  ·cases e;rw [if_pos (by rfl)];exact ⟨_,xU ar⟩
  ·split <;> exact Fp e
theorem BQ:∀ {l:List (Str×NameKind)} {n:Nat} {acc:List (Str×Addr)},(∀ p∈acc,p.2<n)->(∀ x y c,(x,c)∈acc->(y,c)∈acc->x=y)->∀ x y c,(x,c)∈cellsFrom n l acc->(y,c)∈cellsFrom n l acc->x=y
 | [],_,_,_,h=>h
 | (z,k)::r,n,acc,hl,h=>by
  unfold cellsFrom;split
  ·refine BQ (fun p hp=>?_) fun x y c hx hy=>?_
   ·rcases au.mp hp with e | e
    ·subst e;exact Nat.lt_succ_self _
    ·exact df (hl p e)
   ·rcases au.mp hx with e | e <;> rcases au.mp hy with e' | e'
    ·cases e;cases e';rfl
    ·cases e;exact absurd (hl _ e') (ca _)
    ·cases e';exact absurd (hl _ e) (ca _)
    ·exact h x y c e e'
  ·exact BQ hl h
theorem zD:∀ {l:List (Str×NameKind)} {h:Heap} {acc:List (Str×Addr)} {p:Str×Addr},p∈cellsFrom h.objs.size l acc->p∈acc\/(pushCells h l).IsCell p.2 none
 | [],_,_,_,q=>.inl q
 | (x,k)::r,h,acc,p,q=>by
  unfold cellsFrom at q;unfold pushCells;split at q
  ·rename_i hk;rw [if_pos hk];rw [← Heap.size_push h { cls:=.type "cell",data:=.cell none }] at q;rcases zD q with z | z
   ·rcases au.mp z with e | e
    ·subst e;exact .inr ⟨_,pushCells_keeps _ _ _ _ (Heap.get?_push_size _ rfl),rfl⟩
    ·exact .inl e
   ·exact .inr z
  ·rename_i hk;rw [if_neg hk];exact zD q
theorem xQ {cells:List (Str×Addr)}{names:List (Str×NameKind)}{n:Nat}{x:Str}{c:Addr}(hfr:∀ y∈names,y.2 = .free->∃ c,cells.lookup y.1=some c)(h:(x,c)∈cellsFrom n names (ub cells names [])) :
  (cells.lookup x=some c/\(x,NameKind.free)∈names)\/(n<=c/\(x,NameKind.cell)∈names):=by
 rcases BP h with z | z
 ·refine .inl ⟨uY hfr (fun _ z=>absurd z aP) (x,c) z,?_⟩;rcases wz z with w | w
  ·exact absurd w aP
  ·exact w
 ·exact .inr z
theorem GA {M:Model}{A:Around}{E:Value->Shared->Prop}{s:Shared}{scope:Scope}{g:Addr}{cl:List (Str×Addr)}{qual:Str}{env:Env}{Q:Env->Shared->Prop}
  (h:Q (newEnv scope s.heap.objs.size g (cellsFrom (s.heap.objs.size+1) scope.names cl) qual none .none (some env) builtinsNs) { s with heap:=pushCells (s.heap.push { cls:=.type "dict",data:=.dict #[] }) scope.names }) :
  wpAny M A (newFunctionEnv scope g cl [] qual none .none (some env)) Q E s:=by
 simp only [newFunctionEnv,Option.isSome_some,if_true];refine wpAny_bind (wpAny_alloc ?_);refine wpAny_bind (wpAny_layCells _ (fun name kind cells=>by cases hkc:kind == NameKind.cell <;> simp [hkc]) _ _ _ _ ?_);rw [show ({ s with heap:=s.heap.push { cls:=.type "dict",data:=.dict #[] } }:Shared).heap.objs.size=s.heap.objs.size+1 from Heap.size_push ..];refine wpAny_bind ?_;rw [List.forIn_nil];exact wpAny_pure (wpAny_pure h)
def wP (hide:List Nat)(σ:St):St:=hide.foldl (fun s i=>s.set i none) σ
theorem hideS_len:∀ {hide:List Nat} {σ:St},(wP hide σ).length=σ.length
 | [],_=>rfl
 | i::r,σ=>by
  show (wP r (σ.set i none)).length=_;rw [hideS_len,bu]
theorem yw:∀ {hide:List Nat} {σ:St} {i:Nat} {v:V},(wP hide σ)[i]? = some (some v)->i ∉ hide/\σ[i]? = some (some v)
 | [],_,_,_,h=>⟨by simp,h⟩
 | j::r,σ,i,v,h=>by
  obtain ⟨h1,h2⟩:=yw (hide:=r) (σ:=σ.set j none) h;by_cases e:j=i
  ·subst e;by_cases hl:j<σ.length
   ·rw [eX hl] at h2;cases h2
   ·rw [br (by simp;omega)] at h2;cases h2
  ·rw [aK e] at h2;exact ⟨by simp [h1,Ne.symm e],h2⟩
def vh (X:Cx)(scope:Scope)(s2:Shared)(H2:Hp)(fp:List Addr)(pins:List (Addr×Obj))(C:Addr):Cx where
 prog:=X.prog
 w:=X.w
 K:=X.K
 mg:=X.mg
 base:=X.base
 A:=X.A
 N:=X.N
 s₀:=s2
 H₀:=H2
 env:=compEnvC scope (cellsFrom (C+1) scope.names (ub X.env.cells scope.names [])) C X.env
 outer:=X.stack
 stack:=X.stack
 ex:=fp
 fn:=fun x=>scope.names.lookup x == some .cell
 calm:=X.calm
 pn:=X.pn++pins
 xe:=fun _ _=>False
structure CompS (N:List Str)(out:Scope)(scope:Scope)(hide:List Nat):Prop where
 kind:scope.kind = .function
 one:∀ y∈scope.names,scope.names.lookup y.1=some y.2
 free:∀ y∈scope.names,y.2 = .free->out.names.lookup y.1=some .cell\/out.names.lookup y.1=some .free
 loc:∀ y∈scope.names,y.2 = .local->scope.names.lookup y.1=some .local
 own:∀ (i:Nat),i<N.length->(scope.names.lookup (N.getD i "")=some .local\/scope.names.lookup (N.getD i "")=some .cell)->i∈hide
section
variable {X:Cx}{pins:List (Addr×Obj)}{σ:St}{H:Hp}{s:Shared}
theorem Nw {scope:Scope}{hide:List Nat}(S:CompS X.N X.env.scope scope hide){fp:List Addr}{C:Addr}(I:Inv X pins σ H s)(hf:∀ b∈fp,vi X pins H b)(hfo:∀ b∈fp,∃ o,s.heap.get? b=some o)
  (hC:s.heap.objs.size<=C):(vh X scope s H fp pins C).Ok:=by
 have hfr:∀ y∈scope.names,y.2 = .free->∃ c,X.env.cells.lookup y.1=some c:=fun y hy e=>I.ok.has y.1 (S.free y hy e);have old:∀ x c,X.env.cells.lookup x=some c->c<s.heap.objs.size:=fun x c e=>by
  obtain ⟨v,o,ho,_⟩:=I.cell x c e;exact Heap.lt_size ho
 have cl:∀ p∈ub X.env.cells scope.names [],X.env.cells.lookup p.1=some p.2:=uY hfr fun _ z=>absurd z aP;refine ⟨I.ok.mod,S.kind,I.ok.glob,I.ok.blt,hC,fun x y c e1 e2=>BQ (fun p hp=>df (aE (old _ _ (cl p hp)) hC)) (fun x y c h1 h2=>I.ok.inj x y c (cl _ h1) (cl _ h2)) x y c (tP e1) (tP e2),fun x hx=>?_,fun x c h e=>?_,I.ok.hd,I.ok.frames,.inl rfl,fun b hb=>⟨?_,fun x c e=>?_⟩,I.bs,
  aH I.ok.bsz I.sz,fun b o e hb=>?_,fun b hb z=>?_,I.stack,I.stkFree,I.ok.sr,I.ok.rn⟩
 ·have hx':((scope.names.lookup x).map (vL X.env x)=some .cell)\/((scope.names.lookup x).map (vL X.env x)=some .free):=by
   rw [← vX];exact hx
  cases q:scope.names.lookup x with
  | none=>rw [q] at hx';rcases hx' with z | z <;> cases z
  | some k =>
   have mem:=tP q;have kf:k = .free\/k = .cell:=by
    rw [q] at hx';have hx2:vL X.env x k = .cell\/vL X.env x k = .free:=hx'.imp Option.some.inj Option.some.inj;unfold vL at hx2;by_cases c:(k == NameKind.free && X.env.scope.kind == .function && X.env.kindOf x == some .cell)=true
    ·simp only [bN,beq_iff_eq] at c;exact .inl c.1.1
    ·rw [if_neg c] at hx2;exact hx2.symm
   rcases kf with kf | kf
   ·subst kf;obtain ⟨c,hc⟩:=v5 (cells:=X.env.cells) (acc:=[]) mem;exact za (xU hc)
   ·subst kf;obtain ⟨c,hc⟩:=Fp (n:=C+1) (acc:=ub X.env.cells scope.names []) mem;exact za hc
 ·have h:scope.names.lookup x=some .cell:=eq_of_beq h;rcases xQ hfr (tP e) with ⟨_,z⟩ | ⟨z,_⟩
  ·rw [S.one _ z] at h;cases h
  ·exact aH hC (dg z)
 ·obtain ⟨o,e⟩:=hfo b hb;exact aU (aE (Heap.lt_size e) hC)
 ·obtain ⟨o,e'⟩:=hfo b hb;rcases xQ hfr (tP e) with ⟨z,_⟩ | ⟨z,_⟩
  ·exact (hf b hb).2.2.2.2.1 x c z
  ·exact gb (aE (Heap.lt_size e') (aH hC (dg z)))
 ·rcases (hf b hb).2.2.2.1 with z | z
  ·exact I.ok.noex b o e z
  ·exact absurd (aE (Heap.lt_size (I.ok.bs b o e).1) z) (ca _)
 ·rcases au.mp (I.stkSub b z) with q | q
  ·exact (hf b hb).2.1 q
  ·exact (hf b hb).2.2.1 q
theorem Ly (I:Inv X pins σ H s){a:Addr}(h:s.heap.objs.size<=a):a ∉ CJ X.stack:=fun z=>by
 rcases au.mp (I.stkSub a z) with q | q
 ·exact absurd (aE I.lt (by rw [← q];exact h)) (ca _)
 ·exact I.nofs h q
theorem MH {scope:Scope}{hide:List Nat}(S:CompS X.N X.env.scope scope hide){fp:List Addr}{C D:Addr}{h4:Heap}{tk:Nat}{ob:Obj}{m:Str->Option Value}(I:Inv X pins σ H s)(hf:∀ b∈fp,vi X pins H b)(hfo:∀ b∈fp,∃ o,s.heap.get? b=some o)
  (hC:s.heap.objs.size<=C) (hD:s.heap.objs.size<=D) (hDC:D≠C) (k:∀ b u,s.heap.get? b=some u->h4.get? b=some u) (hcl:∀ p∈cellsFrom (C+1) scope.names (ub X.env.cells scope.names []),p∈ub X.env.cells scope.names []\/h4.IsCell p.2 none) (hn:h4.Ns C m) (hDo:h4.get? D=some ob) (hob:∀ v,ob.data ≠ .cell v) :
  Inv (vh X scope s H fp pins C) [(D,ob)] (wP hide σ) H { s with heap:=h4,toks:=tk }:=by
 have ok:=Nw S I hf hfo hC;have hfr:∀ y∈scope.names,y.2 = .free->∃ c,X.env.cells.lookup y.1=some c:=fun y hy e=>I.ok.has y.1 (S.free y hy e);have sub:∀ x c,(x,c)∈ub X.env.cells scope.names []->X.env.cells.lookup x=some c:=fun x c e=>uY hfr (fun _ z=>absurd z aP) (x,c) e;have ck:∀ c v,s.heap.IsCell c v->h4.IsCell c v:=fun c v ⟨o,ho,hd⟩=>⟨o,k c o ho,hd⟩;refine ⟨ok,rfl,I.bare,Un.kept k,⟨m,hn,fun i x v e1 e2 e3=>?_⟩,fun x c e=>?_,I.hok.fresh hC,fun x c e=>?_,fun p hp=>?_,I.hok.kept k,hideS_len.trans I.len⟩
 ·obtain ⟨n1,n2⟩:=yw e2;have e3':((scope.names.lookup x).map (vL X.env x)=some .local)\/((scope.names.lookup x).map (vL X.env x)=some .cell)\/((scope.names.lookup x).map (vL X.env x)=some .free):=by
   rw [← vX];exact e3
  cases q:scope.names.lookup x with
  | none=>rw [q] at e3';rcases e3' with z | z | z <;> cases z
  | some kd =>
   rw [q] at e3';have e4:vL X.env x kd = .local\/vL X.env x kd = .cell\/vL X.env x kd = .free:=e3'.imp Option.some.inj fun z=>z.imp Option.some.inj Option.some.inj;have mem:=tP q;by_cases kl:kd = .local\/kd = .cell
   ·have hi:X.N[i]? = some x:=e1;obtain ⟨hlt,hge⟩:=aj.mp hi;refine absurd (S.own i hlt ?_) n1;rw [ac,hi];exact kl.imp (fun z=>by rw [← z];exact q) fun z=>by rw [← z];exact q
   ·have kf:kd = .free:=by
     unfold vL at e4;by_cases c:(kd == NameKind.free && X.env.scope.kind == .function && X.env.kindOf x == some .cell)=true
     ·simp only [bN,beq_iff_eq] at c;exact c.1.1
     ·rw [if_neg c] at e4;rcases e4 with z | z | z
      ·exact absurd (.inl z) kl
      ·exact absurd (.inr z) kl
      ·exact z
    subst kf;have kx:=S.free _ mem rfl;obtain ⟨m0,_,hl⟩:=I.loc;obtain ⟨u,r,l⟩:=hl i x v e1 n2 (.inr kx);refine ⟨u,r,?_⟩;rcases l with ⟨z,_⟩ | ⟨_,c,e,z⟩
    ·have z':X.env.scope.names.lookup x=some .local:=z;rw [z'] at kx;rcases kx with w | w <;> cases w
    ·obtain ⟨c',hc'⟩:=v5 (cells:=X.env.cells) (acc:=[]) mem;obtain ⟨c2,hc2⟩:=za (xU (n:=C+1) (l:=scope.names) hc');have ec:c2=c:=by
      rcases xQ hfr (tP hc2) with ⟨w,_⟩ | ⟨_,w⟩
      ·exact Option.some.inj (w.symm.trans e)
      ·have w1:=S.one _ w;rw [q] at w1;cases w1
     subst ec;refine .inr ⟨?_,c2,hc2,ck c2 _ z⟩;have e5:((relabel scope X.env).names.lookup x)=some (vL X.env x .free):=by
      show (List.map _ scope.names).lookup x=_;rw [vX,q];rfl
     rcases e4 with w | w | w
     ·unfold vL at w;split at w <;> cases w
     ·exact .inl (e5.trans (by rw [w]))
     ·exact .inr (e5.trans (by rw [w]))
 ·rcases hcl _ (tP e) with w | w
  ·obtain ⟨v,z⟩:=I.cell x c (sub x c w);exact ⟨v,ck c v z⟩
  ·exact ⟨_,w⟩
 ·rcases xQ hfr (tP e) with ⟨w,_⟩ | ⟨w,_⟩
  ·exact I.freeC x c w
  ·exact I.hok.fresh (aH hC (dg w))
 ·rcases cu.mp hp with z | z
  ·obtain ⟨e,n,ne,nf,d⟩:=I.pin p z;refine ⟨k _ _ e,n,aU (aE (Heap.lt_size e) hC),fun y=>?_,d⟩;rcases au.mp (I.stkSub _ y) with q | q
   ·exact ne q
   ·exact nf q
  ·have e:p=(D,ob):=by simpa using z
   subst e;exact ⟨hDo,I.hok.fresh hD,hDC,Ly I hD,hob⟩
theorem MG {scope:Scope}{fp:List Addr}{C D:Addr}{n:Nat}{its:List Value}{ys:List V}{pins':List (Addr×Obj)}{τ:St}{H':Hp}{s':Shared}(I:Inv X pins σ H s)(hf:∀ b∈fp,vi X pins H b)
  (hD:s.heap.objs.size<=D) (J:Inv (vh X scope s H fp pins C) pins' τ H' s') (hp:(D,({ cls:=.type "list",data:=.seq its.toArray n }:Obj))∈pins') (hv:Vals ys its) (hz:ys.length<=sizeLine) :
  Inv X pins σ (tN H' D (.lst ys)) s':=by
 obtain ⟨eD,nD,_⟩:=J.pin _ (aX _ hp);have u:Un (CJ X.stack) fp H H' s.heap s'.heap:=J.base;have ne:∀ b o,s.heap.get? b=some o->b≠D:=fun b o e=>aU (aE (Heap.lt_size e) hD);have u':Un (CJ X.stack) fp H (tN H' D (.lst ys)) s.heap s'.heap:=by
  refine ⟨u.keep,u.slot,fun b o e q hx=>?_,u.there,fun b xs e=>?_,fun b o v e=>?_,fun b ps e=>?_⟩
  ·rw [sV (ne b o e)];exact u.free b o e q hx
  ·have q:=u.tups b xs e;rw [sV (sY q nD)];exact q
  ·have q:=u.frzs b o v e;rw [sV (sY q nD)];exact q
  ·obtain ⟨more,q⟩:=u.tbls b ps e;refine ⟨more,?_⟩;rw [sV (sY q nD)];exact q
 have hok:HOk X.prog X.w (tN H' D (.lst ys)) s'.heap:=fun b o e=>by
  by_cases hb:b=D
  ·subst hb;rw [s9] at e;cases e;exact ⟨hz,its,n,hv,eD⟩
  ·rw [sV hb] at e;exact (J.hok b o e).stay (fun _ _ _ q=>q) (fun c q=>by rw [sV (sY q nD)];exact q) fun c xs q=>by rw [sV (sY q nD)];exact q
 refine I.call' (show s'.os=s.os from J.os) u' hok J.bare fun b hb=>?_;obtain ⟨f0,f1,f2,f3,f4,f5⟩:=hf b hb;exact ⟨f3,f1,f4,f5⟩
end
abbrev xF (its:List Value)(n:Nat):Obj:={ cls:=.type "list",data:=.seq its.toArray n }
def PTs (X:Cx)(ifs:List Expr)(t:TT):Prop :=
 ∀ (pins:List (Addr×Obj)) (s:Shared) (σ:St) (H:Hp) (Q:Bool->Hp->Prop),Inv X pins σ H s->t σ H Q ->
  wpAny (model X.prog X.w) X.A (forIn ifs true fun c r=>if r=true then do let ok ← isTrue c X.env (eval c X.env);pure (ForInStep.yield ok) else pure (ForInStep.yield r)) (TP X pins σ Q) X.xe s
def LZ:TT:=fun _ H Q=>Q true H
theorem pts_nil {X:Cx}:PTs X [] LZ:=fun _ _ _ H _ I h=>wpAny_tests_nil ⟨H,I,h⟩
theorem Ga {X:Cx}{c:Expr}{t:TT}(hc:PT X c t):PTs X [c] t:=fun pins s σ H Q I h=>wpAny_tests_one (hc pins s σ H Q I h)
theorem Lj {Y:Cx}{tg iter elt:Expr}{ifs:List Expr}{scope:Scope}{pos:Pos}{g:TG}{te:TE}{tt:TT}{J:It}{fp:List Addr}{it D:Addr}{tn:Nat->Heap->Prop}{R:Result->Shared->Prop}
  {W:Nat->Nat->St->List V->Hp->Prop} {Z:List V->Hp->Prop} {s:Shared} {σ:St} {H:Hp} {m n0:Nat}
  (T:Turn Y.prog Y.w Y.K tg J fp it tn) (hc:Y.calm=true) (hg:PG Y tg g) (ht:PTs Y ifs tt) (he:PE Y elt te) (hx:∀ e s,Y.xe e s->False)
  (stat:∀ ob H',(∀ b∈fp,H' b=none)->∀ b∈fp,vi Y [(D,ob)] H' b) (hDs:Y.s₀.heap.objs.size<=D) (hDc:∀ x c,Y.env.cells.lookup x=some c->c≠D) (hDp:∀ p∈Y.pn,p.1≠D)
  (turn:∀ k m τ ys H,W k m τ ys H->(J.stop k H/\Z ys H)\/(J.go k H/\ys.length<sizeLine/\∀ x H',J.yld k H x H'->g x τ H' fun τ2 H2=>tt τ2 H2 fun b H3 =>
   if b=true then te τ2 H3 fun v H4=>∃ m',m'<m/\W (k+1) m' τ2 (ys++[v]) H4 else ∃ m',m'<m/\W (k+1) m' τ2 ys H3))
  (out:∀ (τ:St) (H':Hp) (s':Shared) (ys:List V) (its:List Value) (n:Nat),Inv Y [(D,xF its n)] τ H' s'->Vals ys its->ys.length<=sizeLine->Z ys H'->R (.ok .next) s')
  (I:Inv Y [(D,xF [] n0)] σ H s) (st:tn 0 s.heap) (fr:∀ b∈fp,H b=none) (w0:W 0 m σ [] H) :
  codeAny (model Y.prog Y.w) Y.A (.compLoop (.ListComp elt [⟨tg,iter,ifs,0⟩] scope pos) 0 (.ref it) (.ref D) Y.env) R s:=by
 refine codeAny_loop rfl (fun m s'=>∃ k τ H' ys its n,Inv Y [(D,xF its n)] τ H' s'/\tn k s'.heap/\(∀ b∈fp,H' b=none)/\Vals ys its/\ys.length<=sizeLine/\W k m τ ys H') (fun m1 s1 h1=>?_) m ⟨0,σ,H,[],[],n0,I,st,fr,.nil,aC _,w0⟩;obtain ⟨k,τ,H1,ys,its,n,I1,st1,fr1,rv,hz,w1⟩:=h1;have no:∀ {E:Value->Shared->Prop} {α:Type} {c:Sem α} {Q:α->Shared->Prop} {s:Shared},wpAny (model Y.prog Y.w) Y.A c Q Y.xe s->wpAny (model Y.prog Y.w) Y.A c Q E s:=fun {E α c Q s} h=>wpAny_mono h (fun _ _ q=>q) fun e s' q=>(hx e s' q).elim;show wpAny _ Y.A ((compTurn (.ListComp elt [⟨tg,iter,ifs,0⟩] scope pos) 0 (.ref it) (.ref D) Y.env).onRaise _) _ _ s1;refine wpAny_noted ?_;rw [compTurn_list];refine wpAny_bind (wpAny_standAt (wpAny_bind ?_));rcases turn k m1 τ ys H1 w1 with ⟨stop,z⟩ | ⟨go,hlt,step⟩
 ·refine tv (T.done Y rfl rfl rfl hc k _ s1 τ H1 _ I1 (stat _ _ fr1) st1 stop) fun r s2 ⟨hr,I2⟩=>?_;subst hr;exact wpAny_pure (out τ H1 s2 ys its n I2 rv hz z)
 ·refine tv (T.item Y rfl rfl rfl hc k _ s1 τ H1 _ I1 (stat _ _ fr1) st1 go) fun r s2 ⟨u,hr,h2⟩=>?_;subst hr;refine wpAny_bind (tv h2 fun _ s3 ⟨x,H3,I3,r3,y3,st3,fr3⟩=>?_);have I3':=I3.pinned (stat _ _ fr3) (T.obj _ _ st3);refine wpAny_bind (no (tv (hg _ s3 τ H3 x u _ I3' r3 (step x H3 y3)) fun _ s4 ⟨τ4,H4,I4,q4⟩=>?_));refine wpAny_bind (no (tv (ht _ s4 τ4 H4 _ I4 q4) fun ok s5 ⟨H5,I5,q5⟩=>?_));have frs5:∀ {H':Hp} {s':Shared} {τ':St},Inv Y ([(D,xF its n)]++xz fp s3.heap) τ' H' s'->tn (k+1) s'.heap/\∀ b∈fp,H' b=none:=fun {H' s' τ'} I'=>by
   refine ⟨T.keep _ _ _ st3 fun b hb o e=>(I'.pin (b,o) (aX _ (aX _ (uC hb e)))).1,fun b hb=>?_⟩;obtain ⟨o,e,d⟩:=T.obj _ _ st3 b hb;exact (I'.pin (b,o) (aX _ (aX _ (uC hb e)))).2.1
  cases ok with
  | false =>
   have q5':∃ m',m'<m1/\W (k+1) m' τ4 ys H5:=q5;obtain ⟨m',hm,w5⟩:=q5';obtain ⟨a1,a2⟩:=frs5 I5;exact wpAny_pure ⟨rfl,m',hm,k+1,τ4,H5,ys,its,n,I5.unpinned,a1,a2,rv,hz,w5⟩
  | true =>
   have q5':te τ4 H5 fun v H4=>∃ m',m'<m1/\W (k+1) m' τ4 (ys++[v]) H4:=q5;refine wpAny_bind (wpAny_bind (no (tv (he _ s5 τ4 H5 _ I5 q5') fun v s6 ⟨y,H6,I6,r6,m',hm,w6⟩=>?_)));obtain ⟨a1,a2⟩:=frs5 I6;have I7:=I6.unpinned;obtain ⟨eD,nD,neD,nfD,_⟩:=I7.pin (D,xF its n) (aX _ ar);have hlen:=rv.length;have eD':s6.heap.get? D=some { cls:=.type "list",data:=.seq its.toArray n }:=eD;refine wpAny_bind (call_meets F.slot_list_append ⟨_,eD',rfl⟩ F.entry_list_append (F.args_list_append_2 _ _) (PySem.list_append D its.toArray n v (by rw [ai];omega)) ⟨eD',?_⟩);have qD:=PySem.IsL.update eD' (·.push v);have I8:Inv Y [] τ4 H6 s6:=I7.pins_of fun p hp=>absurd hp aP;have I9:Inv Y [] τ4 H6 { s6 with heap:=s6.heap.update D (Obj.mapSeq (·.push v)) }:=I8.turned (t':=s6.toks) (fun b o hb e=>(Heap.get?_update_other s6.heap (Obj.mapSeq (·.push v)) (Ne.symm hb)).trans e) nD neD (.inr hDs) hDc fun p hp=>hDp p (by simpa using hp);have ep:its.toArray.push v=(its++[v]).toArray:=by simp
   rw [ep] at qD;obtain ⟨n2,qD⟩:∃ n2,(s6.heap.update D (Obj.mapSeq (·.push v))).get? D=some (xF (its++[v]) n2):=⟨_,qD⟩;have I10:Inv Y [(D,xF (its++[v]) n2)] τ4 H6 { s6 with heap:=s6.heap.update D (Obj.mapSeq (·.push v)) }:=I9.pins_of fun p hp=>by
    have e:p=(D,xF (its++[v]) n2):=by simpa using hp
    subst e;exact ⟨qD,nD,neD,nfD,fun v z=>by have z':Data.seq _ _=Data.cell v:=z;cases z'⟩
   refine wpAny_pure (wpAny_pure ⟨rfl,m',hm,k+1,τ4,H6,ys++[y],its++[v],_,I10,?_,a2,rv.append (.cons r6 .nil),?_,w6⟩)
   ·refine T.keep _ _ _ a1 fun b hb o e=>(Heap.get?_update_other s6.heap (Obj.mapSeq (·.push v)) ?_).trans e;have f5:=(stat (xF its n) H6 a2 b hb).2.2.2.2.2;exact f5 (D,xF its n) (aX _ ar)
   ·rw [aD,gU];omega
theorem xS {scope:Scope}{env:Env}(h:∀ y∈scope.names,y.2 = .free->∃ c,env.cells.lookup y.1=some c):closureFor scope env=pure (ub env.cells scope.names []):=by
 have q:=vJ (env:=env) (acc:=[]) h;unfold closureFor;show (forIn scope.names [] _ >>= fun r=>pure r)=_;refine Eq.trans (congrArg (· >>= fun r=>pure r) (Eq.trans ?_ q)) (by simp);refine congrArg (forIn scope.names []) ?_;funext x r;obtain ⟨n,k⟩:=x;first
  | rfl
  | (dsimp only;split <;> simp)
def Iq (J:It)(g:TG)(tt:TT)(te:TE)(σ:St)(Q:VK)(H1:Hp):Prop:=∃ W:Nat->Nat->St->List V->Hp->Prop,(∃ m,W 0 m σ [] H1) /\
 ∀ k m τ ys H,W k m τ ys H->(J.stop k H/\∀ D,H D=none->Q (.ref D) (tN H D (.lst ys)))\/(J.go k H/\ys.length<sizeLine/\∀ x H',J.yld k H x H'->g x τ H' fun τ2 H2=>tt τ2 H2 fun b H3 =>
   if b=true then te τ2 H3 fun v H4=>∃ m',m'<m/\W (k+1) m' τ2 (ys++[v]) H4 else ∃ m',m'<m/\W (k+1) m' τ2 ys H3)
def Hs (wi:TI)(hide:List Nat)(g:TG)(tt:TT)(te:TE):TE:=fun σ H Q=>wi σ H fun J H1=>Iq J g tt te (wP hide σ) Q H1
theorem Fz {X:Cx}{pins:List (Addr×Obj)}{σ:St}{H:Hp}{s:Shared}{elt tg iter:Expr}{ifs:List Expr}{scope:Scope}{pos:Pos}{hide:List Nat}{g:TG}{te:TE}{tt:TT}{J:It}{fp:List Addr}{it:Addr}{tn:Nat->Heap->Prop}{RR:Value->Addr->Result->Shared->Prop}{Q:VK}{E:Value->Shared->Prop}
  (hc:X.calm=true) (S:CompS X.N X.env.scope scope hide)
  (hg:∀ s2 H2 fp pins C,PG (vh X scope s2 H2 fp pins C) tg g) (ht:∀ s2 H2 fp pins C,PTs (vh X scope s2 H2 fp pins C) ifs tt) (he:∀ s2 H2 fp pins C,PE (vh X scope s2 H2 fp pins C) elt te)
  (I:Inv X pins σ H s) (T:Turn X.prog X.w X.K tg J fp it tn) (st:tn 0 s.heap) (hf:∀ b∈fp,vi X pins H b)
  (h:∃ W:Nat->Nat->St->List V->Hp->Prop,(∃ m,W 0 m (wP hide σ) [] H) /\
   ∀ k m τ ys H,W k m τ ys H->(J.stop k H/\∀ D,H D=none->Q (.ref D) (tN H D (.lst ys)))\/(J.go k H/\ys.length<sizeLine/\∀ x H',J.yld k H x H'->g x τ H' fun τ2 H2=>tt τ2 H2 fun b H3 =>
    if b=true then te τ2 H3 fun v H4=>∃ m',m'<m/\W (k+1) m' τ2 (ys++[v]) H4 else ∃ m',m'<m/\W (k+1) m' τ2 ys H3))
  (hRR:∀ D C s' ys H',Inv X pins σ (tN H' D (.lst ys)) s'->vi X pins (tN H' D (.lst ys)) C->(∃ m,s'.heap.Ns C m)->Q (.ref D) (tN H' D (.lst ys))->RR (.ref D) C (.ok .next) s') :
  wpAny (model X.prog X.w) X.A (newList []) (fun acc s3=>wpAny (model X.prog X.w) X.A (newFunctionEnv scope X.env.globals (ub X.env.cells scope.names []) [] X.env.qual none .none (some X.env)) (fun cenv s4 =>
   codeAny (model X.prog X.w) X.A (.compStart (.ListComp elt [⟨tg,iter,ifs,0⟩] scope pos) 0 (.ref it) acc { cenv with scope:=relabel scope X.env }) (RR acc cenv.locals) s4) E s3) E s:=by
 obtain ⟨W,⟨m0,w0⟩,turn⟩:=h;refine wpAny_newList (GA ?_) (by simp);dsimp only;generalize hH2:s.heap.push { cls:=.type "list",data:=.seq ([]:List Value).toArray }=H2;have hC:H2.objs.size=s.heap.objs.size+1:=by rw [← hH2,Heap.size_push]
 have k2:∀ b o,H2.get? b=some o->(pushCells (H2.push { cls:=.type "dict",data:=.dict #[] }) scope.names).get? b=some o:=fun b o e=>pushCells_keeps _ _ b o (Heap.get?_push_of_some _ e);have hcl:∀ p∈cellsFrom (H2.objs.size+1) scope.names (ub X.env.cells scope.names []),p∈ub X.env.cells scope.names []\/(pushCells (H2.push { cls:=.type "dict",data:=.dict #[] }) scope.names).IsCell p.2 none:=fun p hp=>by
  rw [← Heap.size_push H2 { cls:=.type "dict",data:=.dict #[] }] at hp;exact zD hp
 have hns₁:(pushCells (H2.push { cls:=.type "dict",data:=.dict #[] }) scope.names).Ns H2.objs.size fun _=>none:=(Heap.Ns.new H2 (.type "dict")).keeps (pushCells_keeps _ _);generalize pushCells (H2.push { cls:=.type "dict",data:=.dict #[] }) scope.names=h₁ at k2 hcl hns₁ ⊢;have k1:∀ b o,s.heap.get? b=some o->h₁.get? b=some o:=fun b o e=>k2 b o (hH2 ▸ Heap.get?_push_of_some _ e);have hDC:s.heap.objs.size≠H2.objs.size:=by rw [hC];exact aU (Nat.lt_succ_self _)
 have eD:h₁.get? s.heap.objs.size=some (xF [] 0):=k2 _ _ (hH2 ▸ Heap.get?_push_size _ rfl);have hfo:∀ b∈fp,∃ o,s.heap.get? b=some o:=fun b hb=>let ⟨o,e,_⟩:=T.obj _ _ st b hb;⟨o,e⟩;have hle:s.heap.objs.size<=H2.objs.size:=by rw [hC];exact d9 _
 have I1:=MH (tk:=s.toks) S I hf hfo hle (am _) hDC k1 hcl hns₁ eD (fun v z=>by have z':Data.seq _ _=Data.cell v:=z;cases z');have sub:∀ x c,(cellsFrom (H2.objs.size+1) scope.names (ub X.env.cells scope.names [])).lookup x=some c->X.env.cells.lookup x=some c\/H2.objs.size+1<=c:=fun x c e=>(xQ (fun y hy e=>I.ok.has y.1 (S.free y hy e)) (tP e)).imp (·.1) (·.1);have st1:tn 0 h₁:=T.keep _ _ _ st fun b _ o e=>k1 b o e;have lp:codeAny (model X.prog X.w) X.A (.compLoop (.ListComp elt [⟨tg,iter,ifs,0⟩] scope pos) 0 (.ref it) (.ref s.heap.objs.size) (compEnvC scope (cellsFrom (H2.objs.size+1) scope.names (ub X.env.cells scope.names [])) H2.objs.size X.env)) (RR (.ref s.heap.objs.size) H2.objs.size)
   { s with heap:=h₁ }:=by
  refine Lj (Y:=vh X scope s H fp pins H2.objs.size) (Z:=fun ys H=>∀ D,H D=none->Q (.ref D) (tN H D (.lst ys))) T hc (hg _ _ _ _ _) (ht _ _ _ _ _) (he _ _ _ _ _) (fun _ _ z=>z) (fun ob H' hn b hb=>?_) (am _) (fun x c e z=>?_) (fun p hp z=>?_) turn (fun τ H' s' ys its n J rv hz q=>?_) I1 st1 (fun b hb=>(hf b hb).1) w0
  ·obtain ⟨f0,f1,f2,f3,f4,f5⟩:=hf b hb;obtain ⟨o,e⟩:=hfo b hb;have lb:=Heap.lt_size e;refine ⟨hn b hb,aU (aE lb hle),fun z=>?_,.inl hb,fun x c e=>(sub x c e).elim (f4 x c) fun z=>gb (aE lb (aH hle (dg z))),fun p hp=>?_⟩
   ·rcases au.mp (I.stkSub b z) with q | q
    ·exact f1 q
    ·exact f2 q
   ·rcases cu.mp hp with z | z
    ·exact f5 p z
    ·have e:p=(s.heap.objs.size,ob):=by simpa using z
     subst e;exact gb lb
  ·rcases sub x c e with w | w
   ·obtain ⟨v,o,ho,_⟩:=I.cell x c w;exact absurd (Heap.lt_size ho) (by rw [z];exact ca _)
   ·rw [z,hC] at w;exact absurd (dg w) (Nat.not_succ_le_self _)
  ·exact absurd (Heap.lt_size (I.pin p hp).1) (by rw [z];exact ca _)
  ·obtain ⟨_,nD,_⟩:=J.pin _ (aX _ ar);have nC:H' H2.objs.size=none:=J.free;refine hRR _ _ s' ys H' (MG I hf (am _) J ar rv hz) (I.fpOk hle ?_) ?_ (q _ nD)
   ·rw [sV (Ne.symm hDC)];exact nC
   ·obtain ⟨m,hm,_⟩:=J.loc;exact ⟨m,hm⟩
 exact codeAny_compStart_list lp (T.self X.A 0 _ _ _ st1 lp)
section
variable {X:Cx}{elt tg iter:Expr}{ifs:List Expr}{scope:Scope}{pos:Pos}{hide:List Nat}{wi:TI}{g:TG}{te:TE}{tt:TT}
theorem Gh (hc:X.calm=true)(S:CompS X.N X.env.scope scope hide)(hi:PI X tg iter wi)
  (hg:∀ s2 H2 fp pins C,PG (vh X scope s2 H2 fp pins C) tg g) (ht:∀ s2 H2 fp pins C,PTs (vh X scope s2 H2 fp pins C) ifs tt) (he:∀ s2 H2 fp pins C,PE (vh X scope s2 H2 fp pins C) elt te)
  (hs:∀ x,foldedSetIterable iter X.env x=pure x:=by intro _;rfl):PE X (.ListComp elt [⟨tg,iter,ifs,0⟩] scope pos) (Hs wi hide g tt te):=by
 intro pins s σ H Q I h;rw [eval_ListComp];refine wpAny_comprehension_free (use:=none) rfl hs (xS fun y hy e=>I.ok.has y.1 (S.free y hy e)) S.kind S.loc (tv (hi pins s σ H _ I h) fun v s1 h1=>tv h1 fun itv s2 h2=>?_);obtain ⟨it,fp,tn,J,H2,e,I2,T,st2,f2,q2⟩:=h2;subst e;refine Fz (RR:=fun acc C=>compPost (model X.prog X.w) X.A X.xe none (EP X pins σ Q) acc C) hc S hg ht he I2 T st2 f2 q2 fun D C s' ys H' I' fC hN q=>?_;obtain ⟨m,hm⟩:=hN;obtain ⟨f0,f1,f2,f3,f4,f5⟩:=fC;refine ⟨m,hm,fun h' sb=>⟨.ref D,_,?_,rfl,q⟩⟩;exact I'.turned (t':=s'.toks) (fun b o hb e=>(sb.2 b hb).trans e) f0 f1 f3 f4 f5
theorem Gb {i:Nat}{y:Str}{py spos:Pos}(hc:X.calm=true)(hN:X.N.Nodup)(hy:X.N[i]? = some y)(hl:DH X.env.scope y)(S:CompS X.N X.env.scope scope hide)(hi:PI X tg iter wi)
  (hg:∀ s2 H2 fp pins C,PG (vh X scope s2 H2 fp pins C) tg g) (ht:∀ s2 H2 fp pins C,PTs (vh X scope s2 H2 fp pins C) ifs tt) (he:∀ s2 H2 fp pins C,PE (vh X scope s2 H2 fp pins C) elt te)
  (hs:∀ x,foldedSetIterable iter X.env x=pure x:=by intro _;rfl)
  (hsw:swapsWith (.ListComp elt [⟨tg,iter,ifs,0⟩] scope pos) (some (.Name y py)) spos.line X.env=pure true:=by rfl)
  (hf:X.fn y=true\/X.env.scope.names.lookup y=some .local:=by first | exact .inl rfl | exact .inr rfl | assumption) :
  PS X (.Assign [.Name y py] (.ListComp elt [⟨tg,iter,ifs,0⟩] scope pos) spos) (fun D σ H=>Hs wi hide g tt te σ H fun v H1=>D.nx (σ.set i (some v)) H1):=by
 intro pins s σ H D I h;rw [exec_Assign_Name_used _ _ _ _ hsw];refine wpAny_bind (wpAny_standAt (wpAny_bind ?_));show wpAny _ X.A (do let _ ← comprehension (.ListComp elt [⟨tg,iter,ifs,0⟩] scope pos) scope X.env _ (newList []) false (eval iter X.env) (some (assign (.Name y py) X.env))) _ _ s;refine wpAny_bind (tv (wpAny_comprehension_free (use:=some (assign (.Name y py) X.env)) (Q:=fun _ s'=>SP X pins D .next s') rfl hs (xS fun y hy e=>I.ok.has y.1 (S.free y hy e)) S.kind S.loc
  (tv (hi pins s σ H _ I h) fun v s1 h1=>tv h1 fun itv s2 h2=>?_)) (fun _ s' hq=>wpAny_pure (wpAny_pure hq)))
 obtain ⟨it,fp,tn,J,H2,e,I2,T,st2,f2,q2⟩:=h2;subst e;refine Fz (Q:=fun v H1=>D.nx (σ.set i (some v)) H1) (RR:=fun acc C=>compPost (model X.prog X.w) X.A X.xe (some (assign (.Name y py) X.env)) (fun _ s'=>SP X pins D .next s') acc C) hc S hg ht he I2 T st2 f2 q2 fun A C s' ys H' I' fC hNs q=>?_;obtain ⟨m,hm⟩:=hNs;obtain ⟨f0,f1,f2,f3,f4,f5⟩:=fC;show wpAny _ X.A (assign (.Name y py) X.env (.ref A)) _ _ s';refine wpAny_assign_Name (yg I' hN hy hl (v:=.ref A) rfl (fun s'' I'' hch=>?_) hf);obtain ⟨a,sb,ha⟩:=hch;have nC:C≠a:=by
  rcases ha with z | z
  ·rw [z];exact f1
  ·exact Ne.symm (f4 _ _ z)
 refine ⟨m,hm.sameBut sb nC,fun h3 sb3=>⟨_,_,?_,q⟩⟩;exact I''.turned (t':=s''.toks) (fun b o hb e=>(sb3.2 b hb).trans e) f0 f1 f3 f4 f5
end
end L2
namespace L2
open PySem PySem.Spec PyProof.Rows
def Lt2 (n:Nat)(i:Int):Prop:=i.natAbs<2^n
theorem Lt2.mono {n m:Nat}{i:Int}(h:Lt2 n i)(l:n<=m):Lt2 m i:=aE h (bE (by decide) l)
theorem Lt2.mul {n m:Nat}{i j:Int}(h:Lt2 n i)(l:Lt2 m j):Lt2 (n+m) (i*j):=by
 unfold Lt2;rw [aR,dY];exact Nat.mul_lt_mul'' h l
theorem Lt2.add {n:Nat}{i j:Int}(h:Lt2 n i)(l:Lt2 n j):Lt2 (n+1) (i+j):=by
 unfold Lt2 at *;rw [cZ];omega
theorem Lt2.sub {n:Nat}{i j:Int}(h:Lt2 n i)(l:Lt2 n j):Lt2 (n+1) (i-j):=by
 unfold Lt2 at *;rw [cZ];omega
theorem Lt2.neg {n:Nat}{i:Int}(h:Lt2 n i):Lt2 n (-i):=by
 unfold Lt2 at *;rw [dQ];exact h
theorem Lt2.of {n:Nat}{i:Int}(b:Nat)(h:i.natAbs<=b)(l:b<2^n):Lt2 n i:=b8 h l
theorem Lt2.le {n:Nat}{i j:Int}(h:Lt2 n i)(l:j.natAbs<=i.natAbs):Lt2 n j:=b8 l h
def CMulB (i j:Int):Prop:=∃ n m,Lt2 n i/\Lt2 m j/\n+m<=100000000
theorem CMulB.ok {i j:Int}(h:CMulB i j):IntMulOk i j:=by
 obtain ⟨n,m,h1,h2,h3⟩:=h;have a:=PyProof.Rows.intBits_le h1;have b:=PyProof.Rows.intBits_le h2;unfold IntMulOk;intro z;simp only [bN,decide_eq_true_eq] at z;have z2:((Builtin.Int.intBits i:Int)+(Builtin.Int.intBits j:Int)) > ((2^27:Nat):Int):=of_decide_eq_true z.2;have e:(2^27:Nat)=134217728:=by decide
 rw [e] at z2;omega
def uZ (i j:Int):Prop:=j≠0/\∃ n,Lt2 n j/\n<=100000000
theorem Inv.pyl {X:Cx}{pins:List (Addr×Obj)}{σ:St}{H:Hp}{s:Shared}{k:Nat}(I:Inv X pins σ H s)(hr:Room k X.A):PySem.PylongRoom (model X.prog X.w) X.A s:=by
 obtain ⟨e,l,h1,h2,h3,h4,h5⟩:=I.ok.rn;exact PySem.PylongRoom.of I.nolimit (by have:=hr.dp;show X.A.depth+100<_;omega) (PySem.SeerAt.of (I.ok.sr.1.keeps I.bk) I.ok.sr.2 (by rw [I.ok.frames,h1]) h2 h3 h4 h5)
theorem MX {X:Cx}{f:Value->Value->Sem Value}{C:Int->Int->Prop}{g:Int->Int->Int}{k:Nat}(hr:Room k X.A)
  (rule:∀ (i j:Int) (t u:Tok) (s:Shared) (Q:Value->Shared->Prop) (E:Value->Shared->Prop),PySem.PylongRoom (model X.prog X.w) X.A s->C i j->Q (.int (g i j) s.toks) { s with toks:=s.toks+1 }->wpAny (model X.prog X.w) X.A (f (.int i t) (.int j u)) Q E s) :
  OpR X f (rI C fun i j=>.int (g i j)):=by
 intro pins s σ H x y v u Q I rx ry h;obtain ⟨i,j,rfl,rfl,hc,q⟩:=h;obtain ⟨t,rfl⟩:=rx;obtain ⟨t',rfl⟩:=ry;exact rule i j t t' s _ _ (Inv.pyl I hr) hc ⟨.int (g i j),H,I.tok _,⟨_,rfl⟩,q⟩
section
variable {X:Cx}
theorem Gn:OpR X (binaryOp .Mult) (rI CMulB fun i j=>.int (i*j)):=HM fun _ _ _ _ _ _ _ hc q=>mul_int q hc.ok
theorem Ao {k:Nat}(hr:Room k X.A):OpR X (binaryOp .FloorDiv) (rI uZ fun i j=>.int (i.fdiv j)):=MX hr fun _ _ _ _ _ _ _ hp hc q=>floordiv_int hc.1 q (.inr hp)
theorem E3:OpR X (inplaceOp .Mult) (rI CMulB fun i j=>.int (i*j)):=HM fun _ _ _ _ _ _ _ hc q=>imul_int q hc.ok
theorem Dr {k:Nat}(hr:Room k X.A):OpR X (inplaceOp .FloorDiv) (rI uZ fun i j=>.int (i.fdiv j)):=MX hr fun _ _ _ _ _ _ _ hp hc q=>ifloordiv_int hc.1 q (.inr hp)
end
inductive DV where
 | int (i:Int) | str (x:Str) | non | bl (b:Bool) | tup (xs:List DV) | lst (xs:List DV)
mutual
def Rep (K:Frag)(H:Hp):DV->V->Prop
 | .int i,v=>v = .int i
 | .str x,v=>v = .str x
 | .non,v=>v = .non
 | .bl b,v=>v = .bl b
 | .tup ds,v=>∃ a vs,v = .ref a/\SqT K H a vs/\Reps K H ds vs
 | .lst ds,v=>∃ a vs,v = .ref a/\SqL K H a vs/\Reps K H ds vs
def Reps (K:Frag)(H:Hp):List DV->List V->Prop
 | [],vs=>vs=[]
 | d::ds,vs=>∃ v r,vs=v::r/\Rep K H d v/\Reps K H ds r
end
mutual
def DV.pl:DV->Bool
 | .int _=>true | .str _=>true | .non=>true | .bl _=>false
 | .tup ds=>DV.pls ds
 | .lst ds=>DV.pls ds
def DV.pls:List DV->Bool
 | []=>true
 | d::ds=>DV.pl d && DV.pls ds
end
mutual
def DV.dp:DV->Nat
 | .tup ds=>DV.dps ds+1
 | .lst ds=>DV.dps ds+1
 | _=>0
def DV.dps:List DV->Nat
 | []=>0
 | d::ds=>max (DV.dp d) (DV.dps ds)
end
theorem SqT.same {K:Frag}{H H':Hp}{a:Addr}{xs:List V}(e:Same H H')(h:SqT K H a xs):SqT K H' a xs:=by
 rcases h with (h | ⟨o,h⟩) | h
 ·exact .inl (.inl (e _ _ h))
 ·exact .inl (.inr ⟨o,e _ _ h⟩)
 ·exact .inr h
theorem Reps.length {K:Frag}{H:Hp}:∀ {ds:List DV} {vs:List V},Reps K H ds vs->ds.length=vs.length
 | [],vs,h=>by
  have h':vs=[]:=by unfold Reps at h;exact h
  rw [h'];rfl
 | d::ds,vs,h=>by
  unfold Reps at h;obtain ⟨v,r,e,_,h'⟩:=h;rw [e,bg,bg,Reps.length h']
mutual
theorem Rep.same {K:Frag}{H H':Hp}(e:Same H H'):∀ {d:DV} {v:V},Rep K H d v->Rep K H' d v
 | .int i,v,h=>by unfold Rep at *;exact h
 | .str i,v,h=>by unfold Rep at *;exact h
 | .non,v,h=>by unfold Rep at *;exact h
 | .bl i,v,h=>by unfold Rep at *;exact h
 | .tup ds,v,h=>by
  unfold Rep at *;obtain ⟨a,vs,h1,h2,h3⟩:=h;exact ⟨a,vs,h1,h2.same e,Reps.same e h3⟩
 | .lst ds,v,h=>by
  unfold Rep at *;obtain ⟨a,vs,h1,h2,h3⟩:=h;exact ⟨a,vs,h1,e.seq h2,Reps.same e h3⟩
theorem Reps.same {K:Frag}{H H':Hp}(e:Same H H'):∀ {ds:List DV} {vs:List V},Reps K H ds vs->Reps K H' ds vs
 | [],v,h=>by unfold Reps at *;exact h
 | d::ds,vs,h=>by
  unfold Reps at *;obtain ⟨v,r,h1,h2,h3⟩:=h;exact ⟨v,r,h1,Rep.same e h2,Reps.same e h3⟩
end
section
variable {X:Cx}{pins:List (Addr×Obj)}{σ:St}{H:Hp}{s:Shared}
mutual
theorem Rep.inj (I:Inv X pins σ H s):∀ {d d':DV} {v:V},Rep X.K H d v->Rep X.K H d' v->d=d'
 | .int i,d',v,h,h'=>by
  unfold Rep at h;subst h;cases d' <;> unfold Rep at h' <;> first | (cases h';done) | (cases h';rfl) | (obtain ⟨_,_,e,_⟩:=h';cases e)
 | .str i,d',v,h,h'=>by
  unfold Rep at h;subst h;cases d' <;> unfold Rep at h' <;> first | (cases h';done) | (cases h';rfl) | (obtain ⟨_,_,e,_⟩:=h';cases e)
 | .non,d',v,h,h'=>by
  unfold Rep at h;subst h;cases d' <;> unfold Rep at h' <;> first | (cases h';done) | (cases h';rfl) | rfl | (obtain ⟨_,_,e,_⟩:=h';cases e)
 | .bl i,d',v,h,h'=>by
  unfold Rep at h;subst h;cases d' <;> unfold Rep at h' <;> first | (cases h';done) | (cases h';rfl) | (obtain ⟨_,_,e,_⟩:=h';cases e)
 | .tup ds,d',v,h,h'=>by
  unfold Rep at h;obtain ⟨a,vs,rfl,h2,h3⟩:=h;cases d' with
  | tup ds' =>
   unfold Rep at h';obtain ⟨a',vs',e,h2',h3'⟩:=h';cases e;have:=I.tuple_inj h2 h2';subst this;rw [Reps.inj I h3 h3']
  | lst ds' =>
   unfold Rep at h';obtain ⟨a',vs',e,h2',h3'⟩:=h';cases e;obtain ⟨_,_,p,_⟩:=I.tuple h2;obtain ⟨_,_,p',_⟩:=I.list h2';exact absurd rfl (SeqAt.ne_of_list_tuple p'.isList p)
  | _=>unfold Rep at h';cases h'
 | .lst ds,d',v,h,h'=>by
  unfold Rep at h;obtain ⟨a,vs,rfl,h2,h3⟩:=h;cases d' with
  | lst ds' =>
   unfold Rep at h';obtain ⟨a',vs',e,h2',h3'⟩:=h';cases e;have:=I.list_inj h2 h2';subst this;rw [Reps.inj I h3 h3']
  | tup ds' =>
   unfold Rep at h';obtain ⟨a',vs',e,h2',h3'⟩:=h';cases e;obtain ⟨_,_,p,_⟩:=I.tuple h2';obtain ⟨_,_,p',_⟩:=I.list h2;exact absurd rfl (SeqAt.ne_of_list_tuple p'.isList p)
  | _=>unfold Rep at h';cases h'
theorem Reps.inj (I:Inv X pins σ H s):∀ {ds ds':List DV} {vs:List V},Reps X.K H ds vs->Reps X.K H ds' vs->ds=ds'
 | [],ds',vs,h,h'=>by
  unfold Reps at h;subst h;cases ds' with
  | nil=>rfl
  | cons d r=>unfold Reps at h';obtain ⟨_,_,e,_⟩:=h';cases e
 | d::ds,ds',vs,h,h'=>by
  unfold Reps at h;obtain ⟨v,r,e,h1,h2⟩:=h;cases ds' with
  | nil=>unfold Reps at h';rw [h'] at e;cases e
  | cons d' r' =>
   unfold Reps at h';obtain ⟨v',r2,e',h1',h2'⟩:=h';rw [e] at e';cases e';rw [Rep.inj I h1 h1',Reps.inj I h2 h2']
end
end
theorem all_cons {e:Nat->Bool}{n:Nat}:(List.range (n+1)).all e=(e 0 && (List.range n).all fun j=>e (j+1)):=by
 rw [List.range_succ_eq_map,ft,fY];rfl
theorem y7 {e:Nat->Bool}{n m:Nat}(h:n=m):((List.range (min n m)).all e && n == m)=(List.range n).all e:=by
 subst h;rw [Nat.min_self];simp
section
variable {X:Cx}{pins:List (Addr×Obj)}{σ:St}{H:Hp}{s:Shared}
mutual
theorem MC (I:Inv X pins σ H s):∀ (d d':DV) (A:Around) {x y:V} {u v:Value},Rep X.K H d x->Rep X.K H d' y->RelV x u->RelV y v->d.pl=true->d'.pl=true->A.units+d.dp+1<cLine ->
  ∃ b,SeqAt.EqAt A s u v b/\(b=true↔d=d')
 | .bl _,_,_,_,_,_,_,_,_,_,_,p,_,_=>by unfold DV.pl at p;cases p
 | _,.bl _,_,_,_,_,_,_,_,_,_,_,p,_=>by unfold DV.pl at p;cases p
 | .int i,d',A,x,y,u,v,h,h',rx,ry,_,_,hu=>by
  have hu:A.units<cLine:=by omega
  unfold Rep at h;subst h;obtain ⟨t,rfl⟩:=rx;cases d' with
  | bl b=>contradiction
  | int j =>
   unfold Rep at h';subst h';obtain ⟨t',rfl⟩:=ry;exact ⟨_,SeqAt.EqAt.int_int _ _ _ _,by rw [beq_iff_eq];exact ⟨fun e=>by rw [e],fun e=>by cases e;rfl⟩⟩
  | str z =>
   unfold Rep at h';subst h';obtain ⟨t',rfl⟩:=ry;exact ⟨_,SeqAt.EqAt.int_str _ _ _ _,by simp⟩
  | non =>
   unfold Rep at h';subst h';cases ry;exact ⟨_,SeqAt.EqAt.int_none _ _,by simp⟩
  | tup ds' =>
   unfold Rep at h';obtain ⟨a,vs,rfl,h2,_⟩:=h';cases ry;obtain ⟨_,_,p,_⟩:=I.tuple h2;exact ⟨_,SeqAt.EqAt.int_tuple _ _ p hu,by simp⟩
  | lst ds' =>
   unfold Rep at h';obtain ⟨a,vs,rfl,h2,_⟩:=h';cases ry;obtain ⟨_,_,p,_⟩:=I.list h2;exact ⟨_,SeqAt.EqAt.int_list _ _ p.isList hu,by simp⟩
 | .str i,d',A,x,y,u,v,h,h',rx,ry,_,_,hu=>by
  have hu:A.units<cLine:=by omega
  unfold Rep at h;subst h;obtain ⟨t,rfl⟩:=rx;cases d' with
  | bl b=>contradiction
  | int j =>
   unfold Rep at h';subst h';obtain ⟨t',rfl⟩:=ry;exact ⟨_,SeqAt.EqAt.str_int _ _ _ _,by simp⟩
  | str z =>
   unfold Rep at h';subst h';obtain ⟨t',rfl⟩:=ry;exact ⟨_,SeqAt.EqAt.str_str _ _ _ _,by rw [beq_iff_eq];exact ⟨fun e=>by rw [e],fun e=>by cases e;rfl⟩⟩
  | non =>
   unfold Rep at h';subst h';cases ry;exact ⟨_,SeqAt.EqAt.str_none _ _,by simp⟩
  | tup ds' =>
   unfold Rep at h';obtain ⟨a,vs,rfl,h2,_⟩:=h';cases ry;obtain ⟨_,_,p,_⟩:=I.tuple h2;exact ⟨_,SeqAt.EqAt.str_tuple _ _ p hu,by simp⟩
  | lst ds' =>
   unfold Rep at h';obtain ⟨a,vs,rfl,h2,_⟩:=h';cases ry;obtain ⟨_,_,p,_⟩:=I.list h2;exact ⟨_,SeqAt.EqAt.str_list _ _ p.isList hu,by simp⟩
 | .non,d',A,x,y,u,v,h,h',rx,ry,_,_,hu=>by
  have hu:A.units<cLine:=by omega
  unfold Rep at h;subst h;cases rx;cases d' with
  | bl b=>contradiction
  | int j =>
   unfold Rep at h';subst h';obtain ⟨t',rfl⟩:=ry;exact ⟨_,SeqAt.EqAt.none_int _ _,by simp⟩
  | str z =>
   unfold Rep at h';subst h';obtain ⟨t',rfl⟩:=ry;exact ⟨_,SeqAt.EqAt.none_str _ _,by simp⟩
  | non =>
   unfold Rep at h';subst h';cases ry;exact ⟨_,SeqAt.EqAt.same _,by simp⟩
  | tup ds' =>
   unfold Rep at h';obtain ⟨a,vs,rfl,h2,_⟩:=h';cases ry;obtain ⟨_,_,p,_⟩:=I.tuple h2;exact ⟨_,SeqAt.EqAt.none_tuple p hu,by simp⟩
  | lst ds' =>
   unfold Rep at h';obtain ⟨a,vs,rfl,h2,_⟩:=h';cases ry;obtain ⟨_,_,p,_⟩:=I.list h2;exact ⟨_,SeqAt.EqAt.none_list p.isList hu,by simp⟩
 | .tup ds,d',A,x,y,u,v,h,h',rx,ry,pp,pp',hu=>by
  have hu0:A.units<cLine:=by omega
  have hd:=h;unfold Rep at h;obtain ⟨a,vs,rfl,h2,h3⟩:=h;cases rx;obtain ⟨its,rv,p,_⟩:=I.tuple h2;cases d' with
  | bl b=>contradiction
  | int j =>
   unfold Rep at h';subst h';obtain ⟨t',rfl⟩:=ry;exact ⟨_,SeqAt.EqAt.tuple_int _ _ p hu0,by simp⟩
  | str z =>
   unfold Rep at h';subst h';obtain ⟨t',rfl⟩:=ry;exact ⟨_,SeqAt.EqAt.tuple_str _ _ p hu0,by simp⟩
  | non =>
   unfold Rep at h';subst h';cases ry;exact ⟨_,SeqAt.EqAt.tuple_none p hu0,by simp⟩
  | lst ds' =>
   unfold Rep at h';obtain ⟨a',vs',rfl,h2',_⟩:=h';cases ry;obtain ⟨_,_,p',_⟩:=I.list h2';exact ⟨_,SeqAt.EqAt.tuple_list p p'.isList hu0,by simp⟩
  | tup ds' =>
   have hd':=h';unfold Rep at h';obtain ⟨a',vs',rfl,h2',h3'⟩:=h';cases ry;obtain ⟨its',rv',p',_⟩:=I.tuple h2';by_cases e:a=a'
   ·subst e;exact ⟨true,SeqAt.EqAt.same _,by simp [Rep.inj I hd hd']⟩
   ·unfold DV.pl at pp pp';unfold DV.dp at hu;obtain ⟨f,hf,hi⟩:=Bz I ds ds' A.in1 h3 h3' rv rv' pp pp' (by show A.units+1+_+1<_;omega);refine ⟨_,SeqAt.EqAt.of_refs e (SeqAt.RcAt.tuples p p' hu0 (e:=f) fun j h1 h2=>?_),?_⟩
    ·have q:=hf j (by simpa using h1) (by simpa using h2);simpa using q
    ·simp only [ai,DV.tup.injEq];exact hi
 | .lst ds,d',A,x,y,u,v,h,h',rx,ry,pp,pp',hu=>by
  have hu0:A.units<cLine:=by omega
  have hd:=h;unfold Rep at h;obtain ⟨a,vs,rfl,h2,h3⟩:=h;cases rx;obtain ⟨its,rv,p,_⟩:=I.list h2;cases d' with
  | bl b=>contradiction
  | int j =>
   unfold Rep at h';subst h';obtain ⟨t',rfl⟩:=ry;exact ⟨_,SeqAt.EqAt.list_int _ _ p.isList hu0,by simp⟩
  | str z =>
   unfold Rep at h';subst h';obtain ⟨t',rfl⟩:=ry;exact ⟨_,SeqAt.EqAt.list_str _ _ p.isList hu0,by simp⟩
  | non =>
   unfold Rep at h';subst h';cases ry;exact ⟨_,SeqAt.EqAt.list_none p.isList hu0,by simp⟩
  | tup ds' =>
   unfold Rep at h';obtain ⟨a',vs',rfl,h2',_⟩:=h';cases ry;obtain ⟨_,_,p',_⟩:=I.tuple h2';exact ⟨_,SeqAt.EqAt.list_tuple p.isList p' hu0,by simp⟩
  | lst ds' =>
   have hd':=h';unfold Rep at h';obtain ⟨a',vs',rfl,h2',h3'⟩:=h';cases ry;obtain ⟨its',rv',p',_⟩:=I.list h2';by_cases e:a=a'
   ·subst e;exact ⟨true,SeqAt.EqAt.same _,by simp [Rep.inj I hd hd']⟩
   ·unfold DV.pl at pp pp';unfold DV.dp at hu;obtain ⟨f,hf,hi⟩:=Bz I ds ds' A.in1 h3 h3' rv rv' pp pp' (by show A.units+1+_+1<_;omega);by_cases hz:its.length=its'.length
    ·refine ⟨_,SeqAt.EqAt.of_refs e (SeqAt.RcAt.lists p.isList p'.isList (by simpa using hz) hu0 (e:=f) fun j h1 h2=>?_),?_⟩
     ·have q:=hf j (by simpa using h1) (by simpa using h2);simpa using q
     ·simp only [ai,DV.lst.injEq];rw [y7 hz] at hi;exact hi
    ·refine ⟨_,SeqAt.EqAt.of_refs e (SeqAt.RcAt.lists_lengths p.isList p'.isList (by simpa using hz) hu0),?_⟩;simp only [cK,false_iff,DV.lst.injEq];intro z;have l1:=h3.length;have l2:=h3'.length;rw [z] at l1;exact hz (by rw [← rv.length,← rv'.length,← l1,← l2])
theorem Bz (I:Inv X pins σ H s):∀ (ds ds':List DV) (A:Around) {xs ys:List V} {us vs:List Value},Reps X.K H ds xs->Reps X.K H ds' ys->Vals xs us->Vals ys vs->DV.pls ds=true->DV.pls ds'=true->A.units+DV.dps ds+1<cLine ->
  ∃ e:Nat->Bool,(∀ j (h1:j<us.length) (h2:j<vs.length),SeqAt.EqAt A s us[j] vs[j] (e j))/\((((List.range (min us.length vs.length)).all e && us.length == vs.length)=true)↔ds=ds')
 | [],ds',A,xs,ys,us,vs,h,h',rx,ry,_,_,_=>by
  unfold Reps at h;subst h;cases rx;refine ⟨fun _=>true,fun j h1 _=>absurd h1 (by simp),?_⟩;cases ds' with
  | nil=>unfold Reps at h';subst h';cases ry;simp
  | cons d r=>unfold Reps at h';obtain ⟨_,_,rfl,_⟩:=h';cases ry;simp
 | d::ds,ds',A,xs,ys,us,vs,h,h',rx,ry,pp,pp',hu=>by
  unfold Reps at h;obtain ⟨x,r,rfl,h1,h2⟩:=h;cases rx with
  | cons rx rxs =>
   cases ds' with
   | nil =>
    unfold Reps at h';subst h';cases ry;exact ⟨fun _=>true,fun j _ h2=>absurd h2 (by simp),by simp⟩
   | cons d' ds' =>
    unfold Reps at h';obtain ⟨y,r',rfl,h1',h2'⟩:=h';cases ry with
    | cons ry rys =>
     unfold DV.pls at pp pp';rw [bN] at pp pp';unfold DV.dps at hu;obtain ⟨b,hb,ib⟩:=MC I d d' A h1 h1' rx ry pp.1 pp'.1 (by omega);obtain ⟨e,he,ie⟩:=Bz I ds ds' A h2 h2' rxs rys pp.2 pp'.2 (by omega);refine ⟨fun j=>match j with | 0=>b | j+1=>e j,fun j=>?_,?_⟩
     ·cases j with
      | zero=>exact fun _ _=>hb
      | succ j=>exact fun q1 q2=>he j (by simpa using q1) (by simpa using q2)
     ·rw [bg,bg,iC];have q:∀ n,(List.range (n+1)).all (fun j=>match j with | 0=>b | j+1=>e j)=(b && (List.range n).all e):=fun n=>all_cons;rw [q];have q2:∀ n m:Nat,(n+1 == m+1)=(n == m):=fun n m=>by
       rw [cN];simp
      rw [q2,Bool.and_assoc,bN,ib,ie,List.cons.injEq]
end
def KC (K:Frag)(A:Around)(neg:Bool):R2:=fun x y H Q=>∃ ds ds',Rep K H (.tup ds) x/\Rep K H (.tup ds') y/\DV.pls ds=true/\DV.pls ds'=true/\A.units+DV.dps ds+2<cLine /\
 ∀ b,(b=true↔ds=ds')->Q (.bl (if neg then !b else b)) H
theorem Jr:OpR X (compareOp .Eq) (KC X.K X.A false):=by
 intro pins s σ H x y u v Q I rx ry h;obtain ⟨ds,ds',h1,h2,p1,p2,hu,q⟩:=h;unfold Rep at h1 h2;obtain ⟨a,vs,rfl,t1,r1⟩:=h1;obtain ⟨a',vs',rfl,t2,r2⟩:=h2;cases rx;cases ry;obtain ⟨its,rv,p,_⟩:=I.tuple t1;obtain ⟨its',rv',p',_⟩:=I.tuple t2;obtain ⟨f,hf,hi⟩:=Bz I ds ds' X.A.in1 r1 r2 rv rv' p1 p2 (by show X.A.units+1+_+1<_;omega);refine SeqAt.RcAt.tuples p p' (by omega) (e:=f) (fun j h1 h2=>?_) _ _ _ _ ⟨.bl _,H,I,rfl,q _ ?_⟩
 ·have q:=hf j (by simpa using h1) (by simpa using h2);simpa using q
 ·simp only [ai];exact hi
theorem Jo:OpR X (compareOp .NotEq) (KC X.K X.A true):=by
 intro pins s σ H x y u v Q I rx ry h;obtain ⟨ds,ds',h1,h2,p1,p2,hu,q⟩:=h;unfold Rep at h1 h2;obtain ⟨a,vs,rfl,t1,r1⟩:=h1;obtain ⟨a',vs',rfl,t2,r2⟩:=h2;cases rx;cases ry;obtain ⟨its,rv,p,_⟩:=I.tuple t1;obtain ⟨its',rv',p',_⟩:=I.tuple t2;obtain ⟨f,hf,hi⟩:=Bz I ds ds' X.A.in1 r1 r2 rv rv' p1 p2 (by show X.A.units+1+_+1<_;omega);refine SeqAt.RcNeAt.tuples p p' (by omega) (e:=f) (fun j h1 h2=>?_) _ _ _ _ ⟨.bl _,H,I,rfl,q _ ?_⟩
 ·have q:=hf j (by simpa using h1) (by simpa using h2);simpa using q
 ·simp only [ai];exact hi
theorem C7 (bs:List Bool):(List.range bs.length).all (fun j=>bs.getD j false)=bs.all id:=by
 induction bs with
 | nil=>rfl
 | cons b r ih =>
  rw [bg,all_cons,ft];exact congrArg (b && ·) ih
theorem Fv (hc:X.calm=true):CallR X (.builtin "all") (fun xs H Q=>∃ p,∃ bs:List Bool,xs=[.ref p]/\SqL X.K H p (bs.map V.bl)/\Q (.bl (bs.all id)) H):=by
 intro pins s σ H xs us Q I rv h;obtain ⟨p,bs,rfl,hp,q⟩:=h;obtain ⟨u,rfl,ru⟩:=rv.one;cases ru;obtain ⟨its,rv',pl,_⟩:=I.list hp;refine call_all_walk (wpAny_pyIter_list pl.isList ?_);have e:∀ b o,s.heap.get? b=some o->(s.heap.push { cls:=.type "list_iterator",data:=.fields #[.ref p,.int 0 0] }).get? b=some o:=fun b o e=>Heap.get?_push_of_some _ e;have hne:p≠s.heap.objs.size:=by
  obtain ⟨o,ho,_⟩:=pl.isList;exact aU (Heap.lt_size ho)
 have lb:bs.length=its.length:=by rw [← rv'.length,aa]
 refine ⟨_,_,_,_,_,_,fun j=>bs.getD j false,rfl,Walks.list (A:=X.A.in1) (I.ok.hd hc) _ p hne its.toArray,⟨⟨_,Heap.get?_push_size _ rfl,rfl,rfl⟩,pl.isList.at fun o ho=>e _ o ho⟩,?_,fun h' tk hk=>?_⟩
 ·intro i v s Q E hv hq;have hv':its[i]? = some v:=by simpa using hv
  have hi:i<bs.length:=by
   rw [lb];exact (aj.mp hv').1
  obtain ⟨u,hu,ru⟩:=rv'.get (i:=i) (x:=.bl bs[i]) (by simp [hi]);rw [hv'] at hu;cases hu;cases ru;have:bs.getD i false=bs[i]:=by simp [List.getD,hi]
  have hq:Q (bs.getD i false) s:=hq;rw [this] at hq;exact wpAny_truthy_bool hq
 ·refine ⟨.bl (bs.all id),H,I.kept (t':=tk) fun b o ho=>hk b o ?_ (e b o ho),?_,q⟩
  ·simp only [av];exact aU (Heap.lt_size ho)
  ·show Value.bool _=_;rw [← C7,lb];simp
end
end L2
namespace L2
open PySem PySem.Spec PyProof.Rows
structure Def (P:Program)(w:World)(K:Frag)(mg:Str->Option Value)(base:Heap)(x:Str)(k:Nat)(ps:List Str)(sp:Sp):Prop where
 ex:∃ f fd,FnOk P w K mg base DJ k f fd ps sp/\mg x=some (.ref f)/\PySem.W.keepIn K (.ref f)=true/\Binds K fd ps []
theorem Def.of {P:Program}{w:World}{K:Frag}{mg:Str->Option Value}{base:Heap}{x q:Str}{k:Nat}{ps:List Str}{sp:Sp}{st:Stmt}{f:Addr}{fd:FuncData}(F:Fun K x q st f fd)(m:mg x=some (.ref f))(b:Binds K fd ps [])
  (ok:FnOk P w K mg base DJ k f fd ps sp):Def P w K mg base x k ps sp:=⟨f,fd,ok,m,F.kp,b⟩
theorem Bj {X:Cx}{e:Expr}{es:List Expr}{t:TA}{x:Str}{p pos:Pos}{j k:Nat}{ps:List Str}{sp:Sp}(g:Def X.prog X.w X.K X.mg X.base x j ps sp)(hr:Room k X.A)(ha:PA X (e::es) t)(hjk:j<=k:=by first | decide | omega | exact am _)(hg:Gl X x:=by rfl)
  (hdb:(x == ("__debug__" : Str))=false:=by decide) (he:starEach (e::es) X.env=(false,eval e X.env)::starEach es X.env:=by rfl) (hpl:(backTo pos (starEach es X.env)).any (·.1)=false:=by rfl) :
  PE X (.Call (.Name x p) (e::es) [] pos) (z8 sp [] E0 t):=by
 obtain ⟨f,fd,F,m,kp,b⟩:=g.ex;exact Gj F (hr.mono hjk) hg m kp b .nil KR ha hdb he hpl
structure Bl (mg:Str->Option Value):Prop where
 len:mg "len" = none
 range:mg "range" = none
 all:mg "all" = none
 any:mg "any" = none
 abs:mg "abs" = none
 int:mg "int" = none
 bool:mg "bool" = none
 str:mg "str" = none
 list:mg "list" = none
 tuple:mg "tuple" = none
 dict:mg "dict" = none
 isinstance:mg "isinstance" = none
 enumerate:mg "enumerate" = none
 reversed:mg "reversed" = none
 sorted:mg "sorted" = none
 max:mg "max" = none
 min:mg "min" = none
 sum:mg "sum" = none
 zip:mg "zip" = none
structure Sm (f:Addr)(H H':Hp):Prop where
 app:∀ b o,b≠f->H b=some o->H' b=some o
 key:∀ l r,H f=some (.lst (.ref l::r))->∃ r',H' f=some (.lst (.ref l::r'))
instance {f:Addr}{H H':Hp}:CoeFun (Sm f H H') (fun _=>∀ b o,b≠f->H b=some o->H' b=some o):=⟨Sm.app⟩
theorem Sm.refl {f:Addr}(H:Hp):Sm f H H:=⟨fun _ _ _ h=>h,fun l r h=>⟨r,h⟩⟩
theorem Sm.trans {f:Addr}{H H1 H2:Hp}(a:Sm f H H1)(b:Sm f H1 H2):Sm f H H2:=⟨fun c o n h=>b.app c o n (a.app c o n h),fun l r h=>by
 obtain ⟨r1,h1⟩:=a.key l r h;exact b.key l r1 h1⟩
theorem Sm.new {f p:Addr}{H:Hp}(h:H p=none)(o:HO):Sm f H (tN H p o):=⟨fun b u _ q=>by rw [sV (sY q h)];exact q,fun l r q=>⟨r,by rw [sV (sY q h)];exact q⟩⟩
theorem Same.new {p:Addr}{H:Hp}(h:H p=none)(o:HO):Same H (tN H p o):=fun b u q=>by rw [sV (sY q h)];exact q
theorem Sm.free {f:Addr}{H H':Hp}(e:Sm f H H'){l:Addr}(hl:l≠f)(h:H' l=none):H l=none:=by
 cases q:H l with
 | none=>rfl
 | some o =>
  rw [e.app l o hl q] at h;cases h
end L2
namespace L2
open PySem
theorem BT:bootBuiltins "len" = some (.builtin "len"):=by decide +kernel
theorem JW:bootBuiltins "abs" = some (.builtin "abs"):=by decide +kernel
theorem JV:bootBuiltins "all" = some (.builtin "all"):=by decide +kernel
theorem JU:bootBuiltins "int" = some (.type "int"):=by decide +kernel
theorem CV:bootBuiltins "list" = some (.type "list"):=by decide +kernel
theorem FF:bootBuiltins "tuple" = some (.type "tuple"):=by decide +kernel
end L2
namespace L2
open PySem PySem.Spec PyProof.Rows
def L9 (t u:TS):TS:=fun D σ H=>∃ R:St->Hp->Prop,t { D with nx:=R } σ H/\∀ σ H,R σ H->u D σ H
theorem Ce {X:Cx}{st:Stmt}{more:List Stmt}{t u:TS}(h1:PS X st t)(h2:PSs X more u):PSs X (st::more) (L9 t u):=by
 intro pins s σ H D I h;obtain ⟨R,a,b⟩:=h;refine wpAny_execs_cons (tv (h1 pins s σ H { D with nx:=R } I a) fun f s1 q=>?_);cases f with
 | next =>
  obtain ⟨σ1,H1,I1,r1⟩:=q;exact h2 pins s1 σ1 H1 D I1 (b σ1 H1 r1)
 | brk=>exact q
 | cont=>exact q
 | ret v=>exact q
end L2
namespace L2
open PySem PySem.Spec PyProof.Rows
section
variable {X:Cx}
theorem AY (K:Frag)(hK:X.K=K:=by rfl):IxR X (IV K):=hK ▸ ix_list
theorem Jz (K:Frag)(hK:X.K=K:=by rfl):CallR X (.builtin "len") (fun xs H Q=>∃ p ys,xs=[.ref p]/\(SqL K H p ys\/SqT K H p ys)/\Q (.int ys.length) H):=hK ▸ zJ
theorem MJ (K:Frag)(hc:X.calm=true:=by rfl)(hK:X.K=K:=by rfl):CallR X (.builtin "all") (fun xs H Q=>∃ p,∃ bs:List Bool,xs=[.ref p]/\SqL K H p (bs.map V.bl)/\Q (.bl (bs.all id)) H):=hK ▸ Fv hc
theorem EV (K:Frag)(hK:X.K=K:=by rfl):CallR X (.type "list") (fun xs H Q=>∃ p ys,xs=[.ref p]/\(SqL K H p ys\/SqT K H p ys)/\∀ l,H l=none->Q (.ref l) (tN H l (.lst ys))):=hK ▸ zE
theorem FV (K:Frag)(hK:X.K=K:=by rfl):CallR X (.type "tuple") (fun xs H Q=>∃ p ys,xs=[.ref p]/\((SqL K H p ys/\∀ l,H l=none->Q (.ref l) (tN H l (.tup ys)))\/(SqT K H p ys/\Q (.ref p) H))):=hK ▸ ya
def KD (K:Frag)(neg:Bool):R2:=fun x y H Q=>∃ ds ds',Rep K H (.tup ds) x/\Rep K H (.tup ds') y/\DV.pls ds=true/\DV.pls ds'=true/\DV.dps ds<=60/\∀ b,(b=true↔ds=ds')->Q (.bl (if neg then !b else b)) H
theorem Nv (K:Frag){k:Nat}(hr:Room k X.A)(hK:X.K=K:=by rfl):OpR X (compareOp .Eq) (KD K false):=by
 subst hK;intro pins s σ H x y u v Q I rx ry h;obtain ⟨ds,ds',h1,h2,p1,p2,hu,q⟩:=h;exact Jr pins s σ H x y u v Q I rx ry ⟨ds,ds',h1,h2,p1,p2,by have:=hr.units;omega,q⟩
theorem Nq (K:Frag){k:Nat}(hr:Room k X.A)(hK:X.K=K:=by rfl):OpR X (compareOp .NotEq) (KD K true):=by
 subst hK;intro pins s σ H x y u v Q I rx ry h;obtain ⟨ds,ds',h1,h2,p1,p2,hu,q⟩:=h;exact Jo pins s σ H x y u v Q I rx ry ⟨ds,ds',h1,h2,p1,p2,by have:=hr.units;omega,q⟩
end
end L2
namespace Fr
open L2
def cp (t b:Int):Int:=((Int.gcd t b:Nat):Int)
def part (t b:Int):Int:=if b<0 then -cp t b else cp t b
def top (t b:Int):Int:=t.fdiv (part t b)
def bot (t b:Int):Int:=b.fdiv (part t b)
theorem E9 (a b:Int):Int.gcd b (a.fmod b)=Int.gcd a b:=by
 rw [gY,Int.gcd_sub_mul_left_right,Int.gcd_comm]
theorem CK (a b:Int)(h:b≠0):(a.fmod b).natAbs<b.natAbs:=by
 rcases dR h with hb | hb
 ·have h1:=iB (-a) (b:=-b) (by omega);have h2:=gX (-a) (b:=-b) (by omega);have e:(-a).fmod (-b) = -(a.fmod b):=by
   rw [gY,gY,Int.neg_fdiv_neg,Int.neg_mul];omega
  omega
 ·have h1:=iB a hb;have h2:=gX a hb;omega
theorem uX {t b:Int}(h:b≠0):0<cp t b:=by
 unfold cp;have:0<Int.gcd t b:=fI (by rw [Ne,iu];exact fun z=>h z.2);omega
theorem Ld {t b:Int}(h:b≠0):(cp t b).natAbs<=b.natAbs:=by
 unfold cp;rw [bj];exact cR (by omega) (gm _ _)
theorem Cj {t b:Int}(h:b≠0):part t b≠0:=by
 have:=uX (t:=t) h;unfold part;split <;> omega
theorem Ck {t b:Int}(h:b≠0):(part t b).natAbs<=b.natAbs:=by
 have:=Ld (t:=t) h;unfold part;split
 ·rw [dQ];exact this
 ·exact this
theorem of {p t' b':Int}(hp:p≠0)(hb:0<b')(hc:Int.gcd t' b'=1):top (p*t') (p*b')=t'/\bot (p*t') (p*b')=b':=by
 have e:part (p*t') (p*b')=p:=by
  unfold part cp;rw [Int.gcd_mul_left,hc,dZ];rcases dR hp with h | h
  ·rw [if_pos (Int.mul_neg_of_neg_of_pos h hb)];omega
  ·rw [if_neg (Int.not_lt.mpr (gV (az h hb)))];omega
 unfold top bot;rw [e];exact ⟨cT _ hp,cT _ hp⟩
theorem ex {t b:Int}(h:b≠0):∃ p t' b',p≠0/\0<b'/\Int.gcd t' b'=1/\t=p*t'/\b=p*b':=by
 have g0:0<Int.gcd t b:=fI (by rw [Ne,iu];exact fun z=>h z.2);obtain ⟨t1,e1⟩:=Int.gcd_dvd_left t b;obtain ⟨b1,e2⟩:=iG t b;have hc:Int.gcd t1 b1=1:=by
  have q:Int.gcd ((Int.gcd t b:Int)*t1) ((Int.gcd t b:Int)*b1)=Int.gcd t b:=by rw [← e1,← e2]
  rw [Int.gcd_mul_left,bj] at q;exact gK g0 (by omega)
 have g1:(0:Int)<(Int.gcd t b:Int):=by omega
 by_cases hb:b<0
 ·refine ⟨-(Int.gcd t b:Int),-t1,-b1,by omega,?_,by rw [Int.gcd_neg,Int.neg_gcd];exact hc,by rw [gC];exact e1,by rw [gC];exact e2⟩;rcases eF b1 0 with z | z | z
  ·omega
  ·rw [z,bw] at e2;omega
  ·have:=az g1 z;omega
 ·refine ⟨(Int.gcd t b:Int),t1,b1,by omega,?_,hc,e1,e2⟩;rcases eF b1 0 with z | z | z
  ·have:=dW g1 z;omega
  ·rw [z,bw] at e2;omega
  ·exact z
theorem Ho {t b q:Int}(h:b≠0)(hq:q≠0):top (t*q) (b*q)=top t b/\bot (t*q) (b*q)=bot t b:=by
 obtain ⟨p,t',b',hp,hb,hc,rfl,rfl⟩:=ex (t:=t) h;have e:=of hp hb hc;rw [e.1,e.2];have m1:p*t'*q=(p*q)*t':=by rw [bY,bt t' q,bY]
 have m2:p*b'*q=(p*q)*b':=by rw [bY,bt b' q,bY]
 rw [m1,m2];exact of (bT hp hq) hb hc
theorem low {t b:Int}(h:b≠0):0<bot t b/\top t b*b=t*bot t b/\Int.gcd (top t b) (bot t b)=1:=by
 obtain ⟨p,t',b',hp,hb,hc,rfl,rfl⟩:=ex (t:=t) h;have e:=of hp hb hc;rw [e.1,e.2];refine ⟨hb,?_,hc⟩;rw [Int.mul_left_comm,bY]
theorem yM {t b:Int}(h:b≠0):(top t b).natAbs<=t.natAbs/\(bot t b).natAbs<=b.natAbs:=by
 obtain ⟨p,t',b',hp,hb,hc,rfl,rfl⟩:=ex (t:=t) h;have e:=of hp hb hc;rw [e.1,e.2,aR,aR];have:0<p.natAbs:=by omega
 exact ⟨aQ _ this,aQ _ this⟩
theorem self {t b:Int}(hb:0<b)(hc:Int.gcd t b=1):top t b=t/\bot t b=b:=by
 have:=of (p:=1) (t':=t) (b':=b) (by decide) hb hc;rw [bV,bV] at this;exact this
theorem uniq {t b c d:Int}(hb:b≠0)(hd:0<d)(hc:Int.gcd c d=1)(h:t*d=c*b):top t b=c/\bot t b=d:=by
 have e1:=Ho (t:=t) (b:=b) (q:=d) hb (by omega);have e2:=Ho (t:=c) (b:=d) (q:=b) (by omega) hb;have e3:=self hd hc;rw [h,bt b d,e2.1,e2.2,e3.1,e3.2] at e1;exact ⟨e1.1.symm,e1.2.symm⟩
end Fr
namespace L2
open PySem PySem.Spec PyProof.Rows
mutual
def DV.wd:DV->Nat
 | .tup ds=>max ds.length (DV.wds ds)
 | .lst ds=>max ds.length (DV.wds ds)
 | _=>0
def DV.wds:List DV->Nat
 | []=>0
 | d::ds=>max (DV.wd d) (DV.wds ds)
end
end L2
namespace L2
open PySem PySem.Spec PyProof.Rows
section
variable {X:Cx}
def Mw (K:Frag)(tl:TE):TI:=fun σ H R=>tl σ H fun x H1=>∃ a,x = .ref a/\(((∃ xs,SqL K H1 a xs)/\R (Nc K a) H1)\/((∃ xs,SqT K H1 a xs)/\R (Nb K a) H1))
theorem No (K:Frag){tg l:Expr}{tl:TE}(hl:PE X l tl)(hK:X.K=K:=by rfl):PI X tg l (Mw K tl):=by
 subst hK;intro pins s σ H R I h;refine tv (hl pins s σ H _ I h) fun v s1 ⟨x,H1,I1,r1,q1⟩=>?_;obtain ⟨a,e,q1⟩:=q1;subst e;cases r1;have fp1:∀ b∈[s1.heap.objs.size],vi X pins H1 b:=fun b hb=>by
  have e:b=s1.heap.objs.size:=by simpa using hb
  subst e;exact I1.fpOk (am _) (I1.hok.fresh (am _))
 rcases q1 with ⟨⟨xs,hq⟩,q⟩ | ⟨⟨xs,hq⟩,q⟩
 ·obtain ⟨its,rv,p,hz⟩:=I1.list hq;exact wpAny_pyIter_list p.isList ⟨s1.heap.objs.size,[s1.heap.objs.size],_,_,H1,rfl,I1.kept (t':=s1.toks) fun b o e=>Heap.get?_push_of_some _ e,CY a _,⟨_,Heap.get?_push_size _ rfl,rfl,rfl⟩,fp1,q⟩
 ·obtain ⟨its,rv,p,hz⟩:=I1.tuple hq;exact wpAny_pyIter_tuple (show s1.heap.IsTuple a its.toArray from p) ⟨s1.heap.objs.size,[s1.heap.objs.size],_,_,H1,rfl,I1.kept (t':=s1.toks) fun b o e=>Heap.get?_push_of_some _ e,A1 a _,⟨_,Heap.get?_push_size _ rfl,rfl,rfl⟩,fp1,q⟩
def KF (K:Frag):R2:=fun x y H Q=>∃ a b ys,x = .ref a/\y = .ref b/\SqT K H a []/\SqT K H b ys/\Q (.ref b) H
theorem Li (K:Frag)(hK:X.K=K:=by rfl):OpR X (binaryOp .Add) (KF K):=by
 subst hK;intro pins s σ H x y u v Q I rx ry h;obtain ⟨a,b,ys,rfl,rfl,h1,h2,q⟩:=h;cases rx;cases ry;obtain ⟨its,rv,p,_⟩:=I.tuple h1;obtain ⟨its2,rv2,p2,_⟩:=I.tuple h2;cases rv;obtain ⟨⟨cls,dd,data,sl⟩,ho,hc,n,hd⟩:=id p;obtain ⟨⟨cls2,dd2,data2,sl2⟩,ho2,hc2,n2,hd2⟩:=id p2;simp only at hc hd hc2 hd2;subst hc hd hc2 hd2;exact concat_meets ⟨_,ho,rfl⟩ ⟨_,ho2,rfl⟩ noFill_tuple_add seq_tuple_add PySem.F.slot_tuple_add PySem.F.entry_tuple_add (PySem.F.args_tuple_add_2 _ _)
  (tuple_addW0 a b ([]:List Value).toArray its2.toArray n n2 dd dd2 sl sl2 (by simp)) ⟨ho,ho2,⟨.ref b,H,I,rfl,q⟩⟩
def HC (K:Frag)(neg:Bool):R2:=fun x y H Q=>∃ ds ds',Rep K H (.lst ds) x/\Rep K H (.lst ds') y/\DV.pls ds=true/\DV.pls ds'=true/\DV.dps ds<=60/\∀ b,(b=true↔ds=ds')->Q (.bl (if neg then !b else b)) H
theorem MB (K:Frag){k:Nat}(hr:Room k X.A)(hK:X.K=K:=by rfl):OpR X (compareOp .Eq) (HC K false):=by
 subst hK;intro pins s σ H x y u v Q I rx ry h;obtain ⟨ds,ds',h1,h2,p1,p2,hu,q⟩:=h;have hun:=hr.units;unfold Rep at h1 h2;obtain ⟨a,vs,rfl,t1,r1⟩:=h1;obtain ⟨a',vs',rfl,t2,r2⟩:=h2;cases rx;cases ry;obtain ⟨its,rv,p,_⟩:=I.list t1;obtain ⟨its',rv',p',_⟩:=I.list t2;obtain ⟨f,hf,hi⟩:=Bz I ds ds' X.A.in1 r1 r2 rv rv' p1 p2 (by show X.A.units+1+_+1<_;omega);by_cases hz:its.length=its'.length
 ·refine SeqAt.RcAt.lists p.isList p'.isList (by simpa using hz) (by omega) (e:=f) (fun j h1 h2=>?_) _ _ _ _ ⟨.bl _,H,I,rfl,q _ ?_⟩
  ·have q:=hf j (by simpa using h1) (by simpa using h2);simpa using q
  ·simp only [ai];rw [y7 hz] at hi;exact hi
 ·refine SeqAt.RcAt.lists_lengths p.isList p'.isList (by simpa using hz) (by omega) _ _ _ _ ⟨.bl false,H,I,rfl,q false ?_⟩;simp only [cK,false_iff];intro z;have l1:=r1.length;have l2:=r2.length;rw [z] at l1;exact hz (by rw [← rv.length,← rv'.length,← l1,← l2])
theorem Mp (K:Frag){k:Nat}(hr:Room k X.A)(hK:X.K=K:=by rfl):OpR X (compareOp .NotEq) (HC K true):=by
 subst hK;intro pins s σ H x y u v Q I rx ry h;obtain ⟨ds,ds',h1,h2,p1,p2,hu,q⟩:=h;have hun:=hr.units;unfold Rep at h1 h2;obtain ⟨a,vs,rfl,t1,r1⟩:=h1;obtain ⟨a',vs',rfl,t2,r2⟩:=h2;cases rx;cases ry;obtain ⟨its,rv,p,_⟩:=I.list t1;obtain ⟨its',rv',p',_⟩:=I.list t2;obtain ⟨f,hf,hi⟩:=Bz I ds ds' X.A.in1 r1 r2 rv rv' p1 p2 (by show X.A.units+1+_+1<_;omega);by_cases hz:its.length=its'.length
 ·refine SeqAt.RcNeAt.lists p.isList p'.isList (by simpa using hz) (by omega) (e:=f) (fun j h1 h2=>?_) _ _ _ _ ⟨.bl _,H,I,rfl,q _ ?_⟩
  ·have q:=hf j (by simpa using h1) (by simpa using h2);simpa using q
  ·simp only [ai];rw [y7 hz] at hi;exact hi
 ·refine SeqAt.RcNeAt.lists_lengths p.isList p'.isList (by simpa using hz) (by omega) _ _ _ _ ⟨.bl true,H,I,rfl,q false ?_⟩;simp only [cK,false_iff];intro z;have l1:=r1.length;have l2:=r2.length;rw [z] at l1;exact hz (by rw [← rv.length,← rv'.length,← l1,← l2])
end
end L2
namespace Po
open L2
def gl (b:Nat)(ts:List Int):Nat:=ts.foldl (fun g t=>Nat.gcd g t.natAbs) b
theorem JI (ts:List Int):gl 1 ts=1:=by
 induction ts with
 | nil=>rfl
 | cons t ts ih =>
  show gl (Nat.gcd 1 t.natAbs) ts=1;rw [Nat.gcd_one_left];exact ih
theorem xM:∀ (ts:List Int) (b:Nat),gl b ts∣b/\∀ t∈ts,gl b ts∣t.natAbs
 | [],b=>⟨Nat.dvd_refl b,fun t ht=>absurd ht aP⟩
 | t::ts,b=>by
  have ih:=xM ts (Nat.gcd b t.natAbs);refine ⟨fv ih.1 (Nat.gcd_dvd_left _ _),fun u hu=>?_⟩;rcases au.mp hu with rfl | hu
  ·exact fv ih.1 (gm _ _)
  ·exact ih.2 u hu
theorem BG {c d:Nat}:∀ (ts:List Int) (b:Nat),d∣c*b->(∀ t∈ts,d∣c*t.natAbs)->d∣c*gl b ts
 | [],b,h,_=>h
 | t::ts,b,h,ht=>by
  refine BG ts (Nat.gcd b t.natAbs) ?_ fun u hu=>ht u (aw _ hu);rw [← Nat.gcd_mul_left];exact Nat.dvd_gcd h (ht t ar)
structure Fm (P:List Int)(B:Int):Prop where
 pos:0<B
 last:P=[]\/P.getD (P.length-1) 0≠0
 gcd:gl B.natAbs P=1
theorem getD_mem {P:List Int}{t:Int}(h:t∈P):∃ k,P.getD k 0=t:=by
 obtain ⟨k,hk,e⟩:=List.getElem_of_mem h;exact ⟨k,by simp [List.getD,hk,e]⟩
theorem zy {P P':List Int}{B B':Int}(F:Fm P B)(h:∀ k,P.getD k 0*B'=P'.getD k 0*B):B.natAbs∣B'.natAbs:=by
 have q:=BG (c:=B'.natAbs) (d:=B.natAbs) P B.natAbs (dj _ _) fun t ht=>by
  obtain ⟨k,rfl⟩:=getD_mem ht;have e:=congrArg Int.natAbs (h k);rw [aR,aR] at e;rw [bQ,e];exact dj _ _
 rw [F.gcd,dZ] at q;exact q
theorem EX {P P':List Int}(l:P=[]\/P.getD (P.length-1) 0≠0)(h:∀ k,P.getD k 0=P'.getD k 0):P.length<=P'.length:=by
 rcases l with rfl | l
 ·exact aC _
 ·rcases ao P'.length P.length with z | z
  ·refine absurd ?_ l;rw [h,ac,br (by omega)];rfl
  ·exact z
theorem uniq {P P':List Int}{B B':Int}(F:Fm P B)(F':Fm P' B')(h:∀ k,P.getD k 0*B'=P'.getD k 0*B):P=P'/\B=B':=by
 have d1:=zy F h;have d2:=zy F' fun k=>(h k).symm;have e:=Nat.dvd_antisymm d1 d2;have p1:=F.pos;have p2:=F'.pos;have eB:B=B':=by omega
 subst eB;have hk:∀ k,P.getD k 0=P'.getD k 0:=fun k=>aJ (by omega) (h k);have l1:=EX F.last hk;have l2:=EX F'.last fun k=>(hk k).symm;refine ⟨List.ext_getElem (by omega) fun k h1 h2=>?_,rfl⟩;have q:=hk k;simp [List.getD,h1,h2] at q;exact q
theorem E7 (g:Nat):∀ (ts:List Int) (b:Nat),gl (g*b) (ts.map fun t=>(g:Int)*t)=g*gl b ts
 | [],b=>rfl
 | t::ts,b=>by
  show gl (Nat.gcd (g*b) ((g:Int)*t).natAbs) (ts.map fun t=>(g:Int)*t)=g*gl (Nat.gcd b t.natAbs) ts;rw [aR,bj,Nat.gcd_mul_left];exact E7 g ts _
theorem Bv {b:Nat}(h:0<b)(ts:List Int):0<gl b ts:=Nat.pos_of_dvd_of_pos (xM ts b).1 h
theorem form {ts:List Int}{b:Int}{m:Nat}(hb:0<b)(hm:m<=ts.length)(h0:∀ j,m<=j->ts.getD j 0=0)(hl:m=0\/ts.getD (m-1) 0≠0) :
  Fm ((ts.take m).map fun t=>t.fdiv ((gl b.natAbs (ts.take m):Nat):Int)) (b.fdiv ((gl b.natAbs (ts.take m):Nat):Int)) /\
  (∀ k,((ts.take m).map fun t=>t.fdiv ((gl b.natAbs (ts.take m):Nat):Int)).getD k 0*b=ts.getD k 0*(b.fdiv ((gl b.natAbs (ts.take m):Nat):Int))):=by
 have g0:0<gl b.natAbs (ts.take m):=Bv (by omega) _;have gd:=xM (ts.take m) b.natAbs;generalize hg:gl b.natAbs (ts.take m)=g at *;have gi:(g:Int)≠0:=by omega
 have ex:∀ t:Int,g∣t.natAbs->t=(g:Int)*t.fdiv (g:Int):=fun t ht=>by
  obtain ⟨c,e⟩:(g:Int)∣t:=by first | exact Int.ofNat_dvd_left.mpr ht | exact bc.mp (by rw [bj];exact ht)
  rw [e,cT _ gi]
 have eb:=ex b gd.1;have et:ts.take m=((ts.take m).map fun t=>t.fdiv (g:Int)).map fun t=>(g:Int)*t:=by
  rw [fQ];refine (List.map_id (ts.take m)).symm.trans (List.map_congr_left fun t ht=>?_);exact ex t (gd.2 t ht)
 have bp:0<b.fdiv (g:Int):=by
  rcases eF (b.fdiv (g:Int)) 0 with z | z | z
  ·have:=dW (show (0:Int)<(g:Int) by omega) z;omega
  ·rw [z,bw] at eb;omega
  ·exact z
 have kk:∀ k,((ts.take m).map fun t=>t.fdiv (g:Int)).getD k 0*(g:Int)=ts.getD k 0:=fun k=>by
  by_cases hk:k<m
  ·have h1:k<(ts.take m).length:=by rw [bf];omega
   have h2:k<ts.length:=by omega
   have e1:((ts.take m).map fun t=>t.fdiv (g:Int)).getD k 0=(ts[k]).fdiv (g:Int):=by
    rw [ac,aO,ez hk,aq h2];rfl
   have e2:ts.getD k 0=ts[k]:=by rw [ac,aq h2];rfl
   have mem:ts[k]∈ts.take m:=by
    refine aM (i:=k) ?_;rw [ez hk,aq h2]
   rw [e1,e2,bt];exact (ex _ (gd.2 _ mem)).symm
  ·rw [h0 k (by omega),ac,br (by rw [aa,bf];omega)];exact aL _
 refine ⟨⟨bp,?_,?_⟩,fun k=>?_⟩
 ·have hlen:((ts.take m).map fun t=>t.fdiv (g:Int)).length=m:=by rw [aa,bf];omega
  rcases hl with z | z
  ·left;subst z;simp
  ·right;rw [hlen];intro c;have q:=kk (m-1);rw [c,aL] at q;exact z q.symm
 ·have q:=E7 g ((ts.take m).map fun t=>t.fdiv (g:Int)) (b.fdiv (g:Int)).natAbs;rw [← et] at q;have e:g*(b.fdiv (g:Int)).natAbs=b.natAbs:=by
   conv=>rhs;rw [eb,aR,bj]
  rw [e,hg] at q;exact gK g0 (by omega)
 ·rw [← kk k,bY,← eb]
end Po
namespace L2
open PySem PySem.Spec PyProof.Rows
section
variable {X:Cx}
theorem u4:∀ {ns:List Int} {us:List Value},Vals (ns.map V.int) us->∃ xs:List (Int×Tok),us=xs.map (fun p=>Value.int p.1 p.2)/\xs.map (·.1)=ns
 | [],_,.nil=>⟨[],rfl,rfl⟩
 | n::ns,_,.cons r t=>by
  obtain ⟨tk,e⟩:∃ t,_=Value.int n t:=r;obtain ⟨xs,e1,e2⟩:=u4 t;exact ⟨(n,tk)::xs,by rw [e,e1];rfl,by rw [← e2];rfl⟩
theorem Mq (K:Frag)(hc:X.calm=true:=by rfl)(hK:X.K=K:=by rfl):CallR X (.builtin "max") (fun xs H Q=>∃ p,∃ ns:List Int,xs=[.ref p]/\SqL K H p (ns.map V.int)/\ns≠[]/\∀ M,M∈ns->(∀ a∈ns,a<=M)->Q (.int M) H):=by
 subst hK;intro pins s σ H xs us Q I rv h;obtain ⟨p,ns,rfl,hp,hn,q⟩:=h;obtain ⟨u,rfl,ru⟩:=rv.one;cases ru;obtain ⟨its,rv',pl,_⟩:=I.list hp;obtain ⟨ys,e1,e2⟩:=u4 rv';subst e1;have hl:s.heap.IsList p (intItems ys.toArray):=by
  have:intItems ys.toArray=(ys.map (fun p=>Value.int p.1 p.2)).toArray:=by simp [intItems]
  rw [this];exact pl.isList
 have hsz:0<ys.toArray.size:=by
  rcases ys with _ | ⟨y,ys⟩
  ·exact absurd e2.symm hn
  ·simp
 refine max_intList (I.ok.hd hc) hl hsz fun v h' tk hv hk=>?_;obtain ⟨t,rfl⟩:=intItems_at hv;obtain ⟨h1,h2⟩:=argBest_gt (numAt ys.toArray) (ys.toArray.size-1);refine ⟨.int _,H,I.kept (t':=tk) hk,⟨t,rfl⟩,q _ ?_ fun a ha=>?_⟩
 ·rw [numAt_eq,← e2];exact PySem.getD_mem (by simp only [ai,aa] at *;omega)
 ·rw [← e2] at ha;obtain ⟨j,hj,rfl⟩:=PySem.mem_getD ha;rw [aa] at hj;have:=h2 j (by rw [ai];omega);rw [numAt_eq] at this;exact this
end
theorem pls_ints:∀ ts:List Int,DV.pls (ts.map DV.int)=true
 | []=>by unfold DV.pls;rfl
 | t::ts=>by
  show DV.pls (DV.int t::ts.map DV.int)=true;unfold DV.pls;rw [pls_ints ts];rfl
theorem xO:∀ ts:List Int,DV.dps (ts.map DV.int)=0/\DV.wds (ts.map DV.int)=0
 | []=>by unfold DV.dps DV.wds;exact ⟨rfl,rfl⟩
 | t::ts=>by
  show DV.dps (DV.int t::ts.map DV.int)=0/\DV.wds (DV.int t::ts.map DV.int)=0;unfold DV.dps DV.wds;rw [(xO ts).1,(xO ts).2];exact ⟨rfl,rfl⟩
def Pol (H:Hp)(v:V)(P:List Int)(B:Int):Prop:=∃ a t,v = .ref a/\H a=some (.tup [.ref t,.int B])/\H t=some (.tup (P.map V.int))
theorem JT:bootBuiltins "max" = some (.builtin "max"):=by decide +kernel
theorem JS:bootBuiltins "sum" = some (.builtin "sum"):=by decide +kernel
end L2
namespace L2
open PySem PySem.Spec PyProof.Rows
section
variable {X:Cx}{pins:List (Addr×Obj)}{σ:St}{H:Hp}{s:Shared}{h':Heap}
theorem Inv.turnedL {t':Nat}{fp:List Addr}(I:Inv X pins σ H s)(k:∀ b o,b ∉ fp->s.heap.get? b=some o->h'.get? b=some o)(hf:∀ b∈fp,vi X pins H b):Inv X pins σ H { s with heap:=h',toks:=t' }:=by
 have nit:∀ b u,H b=some u->b ∉ fp:=fun b u e z=>by rw [(hf b z).1] at e;cases e
 have hL:X.env.locals ∉ fp:=fun z=>(hf _ z).2.1 rfl;refine I.step (g':=s.gens) (d':=s.drawn) (ch:=fp) (fun b hb=>⟨(hf b hb).2.2.2.1,(hf b hb).2.1,(hf b hb).2.2.2.2.1,(hf b hb).2.2.2.2.2⟩) (fun b o _ _ hc e _=>k b o hc e) (fun b o _ _ hc e _=>⟨o.slots,k b o hc e⟩) (fun _ _ _ _ n=>n)
  (fun b o hc e=>⟨o,k b o hc e⟩) (fun _ _ e=>e) (fun _ _ _ e=>e) (fun b ps e=>⟨#[],by rw [e];simp⟩) (fun m ⟨o,es,ep,ho,r⟩=>⟨o,es,ep,k _ o hL ho,r⟩) (fun b u e=>?_) I.bare
 refine (I.hok b u e).stay (fun c v hc q=>k c v (hc.elim (fun z=>by rw [z];exact nit b u e) fun z=>nit c _ z) q) (fun _ q=>q) fun _ _ q=>q
end
section
variable {prog:Program}{w:World}{A:Around}{E:Value->Shared->Prop}{s:Shared}
theorem Bp {it t:Addr}{i:Nat}{items:Array Value}{x:Value}{Q:Value->Shared->Prop}(hit:s.heap.IsTupleIter it t i)(ht:s.heap.IsTuple t items)(hx:items[i]? = some x)
  (hQ:∀ h',h'.IsTupleIter it t (i+1)->Heap.SameBut it s.heap h'->Q x { s with heap:=h' }):wpAny (model prog w) A (Builtin.SmallTypes.nextOf (.ref it)) Q E s:=by
 obtain ⟨o,ho,hc,hd⟩:=id hit;obtain ⟨ol,hol,_,nl,hdl⟩:=ht;unfold Builtin.SmallTypes.nextOf;refine wpAny_bind (wpAny_callSpecial?_slot (name:=Str.ofString "__next__") hit.typeIs F.slot_tuple_iterator_next (wpAny_call_entry F.slot_tuple_iterator_next hit.typeIs F.entry_tuple_iterator_next ?_ (F.args_tuple_iterator_next_1 _)));show wpAny _ _ (field (.ref it) 0 >>= _) _ _ s;refine wpAny_bind (wpAny_field ho hd (x:=.ref t) rfl ?_);show wpAny _ _ (if (Value.ref t == Value.none)=true then _ else _) _ _ s;rw [if_neg (show ¬ ((Value.ref t == Value.none)=true) from aF)];show wpAny _ _ (field (.ref it) 1 >>= _) _ _ s;refine wpAny_bind (wpAny_field ho hd (x:=.int i 0) rfl ?_);show wpAny _ _ (seqItems? (.ref t) >>= _) _ _ s;refine wpAny_bind (wpAny_seqItems hol hdl ?_);simp only [aS,hx];refine wpAny_bind (wpAny_setField ho hd (by simp) (wpAny_pure ⟨x,rfl,wpAny_pure (hQ _ ⟨_,Heap.get?_update_self _ ho (Obj.isFreed_of_fields (Obj.data_mapFields hd _)),(Obj.cls_mapFields ..).trans hc,by rw [Obj.data_mapFields hd];simp [rawInt]⟩ (Heap.SameBut.update ..))⟩))
theorem yo {it t:Addr}{i:Nat}{items:Array Value}{Q:Value->Shared->Prop}(hh:A.handled=none)(hit:s.heap.IsTupleIter it t i)(ht:s.heap.IsTuple t items)(hx:items[i]? = none)
  (hE:∀ h' e,Heap.ExtBut it s.heap h'->(∃ o,h'.get? e=some o/\o.cls = .type "StopIteration")->E (.ref e) { s with heap:=h' }):wpAny (model prog w) A (Builtin.SmallTypes.nextOf (.ref it)) Q E s:=by
 obtain ⟨o,ho,hc,hd⟩:=id hit;obtain ⟨ol,hol,_,nl,hdl⟩:=ht;unfold Builtin.SmallTypes.nextOf;refine wpAny_bind (wpAny_callSpecial?_slot (name:=Str.ofString "__next__") hit.typeIs F.slot_tuple_iterator_next (wpAny_call_entry F.slot_tuple_iterator_next hit.typeIs F.entry_tuple_iterator_next ?_ (F.args_tuple_iterator_next_1 _)));show wpAny _ _ (field (.ref it) 0 >>= _) _ _ s;refine wpAny_bind (wpAny_field ho hd (x:=.ref t) rfl ?_);show wpAny _ _ (if (Value.ref t == Value.none)=true then _ else _) _ _ s;rw [if_neg (show ¬ ((Value.ref t == Value.none)=true) from aF)];show wpAny _ _ (field (.ref it) 1 >>= _) _ _ s;refine wpAny_bind (wpAny_field ho hd (x:=.int i 0) rfl ?_);show wpAny _ _ (seqItems? (.ref t) >>= _) _ _ s;refine wpAny_bind (wpAny_seqItems hol hdl ?_);simp only [aS,hx];refine wpAny_bind (wpAny_rule (wpAny_bind (wpAny_setField ho hd (by simp) ?_)));show wpAny _ _ (newExc (.type "StopIteration") [] >>= _) _ _ _;refine wpAny_bind ?_;simp only [newExc,newTuple];refine wpAny_bind (wpAny_newObj_type ?_ (by size_fits));refine wpAny_bind (m:=firstArgMember _ _) (wpAny_of_eq (a:=Value.none) (by first | rfl | (simp only [firstArgMember];rfl)) ?_);refine wpAny_newObj_type ?_ (by size_fits);simp only [raiseNew];refine wpAny_bind (wpAny_handled ?_);first | rw [show A.in1.handled=none from hh] | rw [hh]
 refine wpAny_bind (wpAny_pure (wpAny_throw ?_));exact hE _ _ (((Heap.SameBut.update ..).extBut.push _).push _) ⟨_,Heap.get?_push_size _ rfl,rfl⟩
end
theorem JO {prog:Program}{w:World}{A:Around}(hh:A.handled=none)(it l:Addr)(hne:l≠it)(items:Array Value):Draws prog w A it [it,l] items.size (fun i v=>items[i]? = some v) (fun i h=>h.IsTupleIter it l i/\h.IsTuple l items) where
 live:=fun _ _ st=>let ⟨o,ho,_⟩:=st.1;⟨o,ho⟩
 frame:=fun _ _ _ st hk=>⟨let ⟨o,ho,r⟩:=st.1;⟨o,hk it (by simp) o ho,r⟩,let ⟨o,ho,r⟩:=st.2;⟨o,hk l (by simp) o ho,r⟩⟩
 item:=fun i s Q E hi st hQ=>Bp st.1 st.2 (x:=items[i]) (by simp [hi]) fun h' hit' hs'=>hQ _ h' s.toks (by simp [hi]) ⟨hit',let ⟨o,ho,r⟩:=st.2;⟨o,(hs'.2 l hne).trans ho,r⟩⟩ hs'
 done:=fun s Q E st hE=>yo hh st.1 st.2 (by simp) hE
theorem Dx (l:Addr)(items:Array Value)(n:Nat)(dct:Option Addr)(sl:Array (Option Value)) :
  Meets (Builtin.«enumerate.__new__» ⟨[.type "enumerate",.ref l],[]⟩) (fun _ R s=>s.heap.get? l=some { cls:=.type "tuple",dict:=dct,data:=.seq items n,slots:=sl } /\
   R (.ok (.ret (.ref (s.heap.push { cls:=.type "tuple_iterator",data:=.fields #[.ref l,.int 0 0] }).objs.size)))
    { s with heap:=(s.heap.push { cls:=.type "tuple_iterator",data:=.fields #[.ref l,.int 0 0] }).push { cls:=.type "enumerate",data:=.fields #[.none,.bool false,.ref s.heap.objs.size,rawInt 0,.none,.none] } }) :=
 .of_wp fun prog w A R s h=>by
  obtain ⟨hp,g,d,tk,os⟩:=s;obtain ⟨hl,h⟩:=h;have hsub:=sub_enumerate;have hL:Heap.IsTuple (Shared.heap ⟨hp,g,d,tk,os⟩) l items:=⟨_,hl,rfl,n,rfl⟩
  wp_walk using AutoSeq1.wpAny_loadPart' hl
  refine wpAny_stack_any fun st=>wpAny_pure ?_;split
  ·rename_i c _ _ _ _ _;cases (c == Value.type "enumerate") <;> (wp_walk using AutoSeq1.wpAny_loadPart' hl,wpAny_pyIter_tuple hL;exact ⟨_,rfl,h⟩)
  ·wp_walk using AutoSeq1.wpAny_loadPart' hl,wpAny_pyIter_tuple hL;exact ⟨_,rfl,h⟩
def LV (Sq:Hp->List V->Prop):It:=⟨fun i H=>∃ xs x,Sq H xs/\xs[i]? = some x,fun i H x H'=>∃ p v,x = .ref p/\H p=none/\H'=tN H p (.tup [.int i,v])/\∀ xs,Sq H xs->xs[i]? = some v,fun i H=>∃ xs,Sq H xs/\xs.length<=i⟩
theorem yz {X:Cx}{pins:List (Addr×Obj)}{σ:St}{H:Hp}{s:Shared}{h1 h2:Heap}{e it:Addr}{tk t2:Nat}{i:Nat}{x:V}{u:Value}(I:Inv X pins σ H s)(hf:∀ b∈[e,it],vi X pins H b)(le:e<s.heap.objs.size)(li:it<s.heap.objs.size)(ru:RelV x u)
  (hT:h1.get? s.heap.objs.size=some { cls:=.type "tuple",data:=.seq #[.int i tk,u] }) (hk:∀ b o,b≠e->b≠it->s.heap.get? b=some o->h1.get? b=some o) (hs:Heap.SameBut e h1 h2) :
  Inv X pins σ (tN H s.heap.objs.size (.tup [.int i,x])) { s with heap:=h2,toks:=t2 }/\∀ b∈[e,it],tN H s.heap.objs.size (.tup [.int i,x]) b=none:=by
 have lt:∀ b∈[e,it],b≠s.heap.objs.size:=fun b hb=>by
  rcases au.mp hb with z | z
  ·rw [z];exact aU le
  ·rw [av.mp z];exact aU li
 have I1:Inv X pins σ (tN H s.heap.objs.size (.tup [.int i,x])) { s with heap:=s.heap.push { cls:=.type "tuple",data:=.seq #[.int i tk,u] },toks:=t2 } :=
  I.laid (t':=t2) (fun b u e=>Heap.get?_push_of_some _ e) (am _) ⟨by show 2<=sizeLine;decide,[.int i tk,u],.cons ⟨tk,rfl⟩ (.cons ru .nil),⟨_,Heap.get?_push_size _ rfl,rfl,_,rfl⟩⟩
 have nn:∀ b∈[e,it],tN H s.heap.objs.size (.tup [.int i,x]) b=none:=fun b hb=>by
  rw [sV (lt b hb)];exact (hf b hb).1
 refine ⟨Inv.turnedL (s:={ s with heap:=s.heap.push { cls:=.type "tuple",data:=.seq #[.int i tk,u] },toks:=t2 }) (t':=t2) (fp:=[e,it]) I1 (fun b o hb q=>?_) fun b hb=>⟨nn b hb,(hf b hb).2⟩,nn⟩;have be:b≠e:=fun z=>hb (by simp [z]);have bi:b≠it:=fun z=>hb (by simp [z]);refine (hs.2 b be).trans ?_;rcases Heap.get?_push_cases q with ⟨z1,z2⟩ | z
 ·rw [z1,z2];exact hT
 ·exact hk b o be bi z
theorem Dy {prog:Program}{w:World}{A:Around}{E:Value->Shared->Prop}{s:Shared}{e it l:Addr}{i:Nat}{items:Array Value}{old:Value}{Q:Option Value->Shared->Prop}(hh:A.handled=none)(he:IsEnum s.heap e it i old)(hit:s.heap.IsTupleIter it l i)(hl:s.heap.IsTuple l items)
  (hx:items[i]? = none) (hQ:∀ h',Heap.ExtBut it s.heap h'->Q none { s with heap:=h' }):wpAny (model prog w) A (pyNext (.ref e)) Q E s:=by
 have hT:s.TypeIs (.ref e) "enumerate" := ⟨_,he,rfl⟩;unfold pyNext;refine wpAny_bind (wpAny_attempt (wpAny_callSpecial?_slot (name:=Str.ofString "__next__") hT F.slot_enumerate_next (wpAny_call_entry F.slot_enumerate_next hT F.entry_enumerate_next ?_ (F.args_enumerate_next_1 _))));show wpAny _ _ (field (.ref e) 2 >>= _) _ _ _;refine wpAny_bind (wpAny_field he rfl (x:=.ref it) rfl ?_);refine wpAny_bind (yo (A:=A.in1) hh hit hl hx fun h' x he' hx'=>?_);obtain ⟨o,ho,hc⟩:=hx';exact wpAny_bind (wpAny_isInstance (T := "StopIteration") (b:=true) ⟨o,ho,hc⟩ isSubtype_stop (wpAny_pure (hQ _ he')))
theorem BC {prog:Program}{w:World}{A:Around}{E:Value->Shared->Prop}{s:Shared}{l:Addr}{items:Array Value}{Q:Value->Shared->Prop}(hL:s.heap.IsTuple l items)
  (h:∀ h',IsEnum h' (s.heap.objs.size+1) s.heap.objs.size 0 .none->h'.IsTupleIter s.heap.objs.size l 0->h'.objs.size=s.heap.objs.size+2->(∀ b o,s.heap.get? b=some o->h'.get? b=some o)->Q (.ref (s.heap.objs.size+1)) { s with heap:=h' }) :
  wpAny (model prog w) A (call (.type "enumerate") [.ref l]) Q E s:=by
 obtain ⟨⟨c,dct,dt,sl⟩,hl,hc,n,hd⟩:=hL;have hc':c = .type "tuple" := hc;have hd':dt = .seq items n:=hd;subst hc' hd';refine callType_new F.called_enumerate (by decide) (F.typeCall_enumerate_1 _) (F.newCall_enumerate_1 _) (fun obj=>F.args_object_init_2 obj _) F.entry_enumerate_new (Dx l items n dct sl) ⟨hl,?_⟩;have hz:(s.heap.push { cls:=.type "tuple_iterator",data:=.fields #[.ref l,.int 0 0] }).objs.size=s.heap.objs.size+1:=Heap.size_push ..;show _/\_;rw [hz];have he:IsEnum ((s.heap.push { cls:=.type "tuple_iterator",data:=.fields #[.ref l,.int 0 0] }).push { cls:=.type "enumerate",data:=.fields #[.none,.bool false,.ref s.heap.objs.size,rawInt 0,.none,.none] }) (s.heap.objs.size+1) s.heap.objs.size 0 .none:=by
  have:=Heap.get?_push_size (s.heap.push { cls:=.type "tuple_iterator",data:=.fields #[.ref l,.int 0 0] }) (o:={ cls:=.type "enumerate",data:=.fields #[.none,.bool false,.ref s.heap.objs.size,rawInt 0,.none,.none] }) rfl;rw [hz] at this;exact this
 exact ⟨⟨_,he,rfl⟩,h _ he ⟨_,Heap.get?_push_of_some _ (Heap.get?_push_size _ rfl),rfl,rfl⟩ (by rw [Heap.size_push,hz]) fun b o x=>Heap.get?_push_of_some _ (Heap.get?_push_of_some _ x)⟩
theorem A4 {P:Program}{w:World}{K:Frag}{es:List Expr}{kk:Nat}{ps:Pos}(a e it:Addr)(hei:e≠it):Turn P w K (.Tuple es kk ps) (LV fun H xs=>SqL K H a xs) [e,it] e (fun i h=>(∃ old,IsEnum h e it i old)/\h.IsListIter it a i) where
 mem:=by simp
 obj:=fun i h st b hb=>by
  obtain ⟨⟨old,he⟩,o,ho,hc,hd⟩:=st;rcases au.mp hb with z | z
  ·rw [z];exact ⟨_,he,fun v q=>by cases q⟩
  ·rw [av.mp z];exact ⟨o,ho,fun v q=>by rw [hd] at q;cases q⟩
 keep:=fun i h h' st k=>by
  obtain ⟨⟨old,he⟩,o,ho,r⟩:=st;exact ⟨⟨old,k e (by simp) _ he⟩,o,k it (by simp) o ho,r⟩
 item:=by
  intro X hP hw hK hc i pins s σ H E I hf st hg;subst hP hw hK;obtain ⟨xs,x,hq,hx⟩:=hg;obtain ⟨its,rv,p,hz⟩:=I.list hq;obtain ⟨u,hu,ru⟩:=rv.get hx;obtain ⟨⟨old,he⟩,hit⟩:=st;have hl:s.heap.IsList a its.toArray:=p.isList;have hne:a≠it:=fun z=>by
   obtain ⟨o,ho,c,_⟩:=id hl;obtain ⟨o',ho',c',_⟩:=id hit;rw [z,ho'] at ho;cases ho;rw [c'] at c;revert c;decide
  have hae:e≠a:=fun z=>by
   obtain ⟨o,ho,c,_⟩:=id hl;rw [← z,he] at ho;cases ho;have c':Value.type "enumerate" = Value.type _:=c;revert c';decide
  have le:e<s.heap.objs.size:=Heap.lt_size he;have li:it<s.heap.objs.size:=by obtain ⟨o,ho,_⟩:=id hit;exact Heap.lt_size ho
  refine wpAny_pyNext_enum_itemD (Draws.list (A:=X.A.in1) (I.ok.hd hc) it a hne its.toArray) he ⟨hit,hl⟩ (by have:=(aj.mp hu).1;simpa using this) hei (by simp [hei,hae]) fun y h1 tk hP ho hst hT hsz hk=>?_;have hy:its[i]? = some y:=by simpa using hP
  rw [hu] at hy;cases hy;refine ⟨_,rfl,wpAny_letOwnedTupleGo_enum ho fun h2 he2 hs2=>?_⟩;obtain ⟨I2,n2⟩:=yz (t2:=tk+1) I hf le li ru hT hk hs2;refine ⟨.ref s.heap.objs.size,_,I2,rfl,⟨_,x,rfl,I.hok.fresh (am _),rfl,fun ys hy=>by rw [I.list_inj hy hq];exact hx⟩,⟨⟨_,by simpa using he2⟩,?_⟩,n2⟩;obtain ⟨o,ho1,r⟩:=hst.1;exact ⟨o,(hs2.2 it hei.symm).trans ho1,r⟩
 done:=by
  intro X hP hw hK hc i pins s σ H E I hf st hg;subst hP hw hK;obtain ⟨xs,hq,hx⟩:=hg;obtain ⟨its,rv,p,hz⟩:=I.list hq;obtain ⟨⟨old,he⟩,hit⟩:=st;have hl:s.heap.IsList a its.toArray:=p.isList;have hne:a≠it:=fun z=>by
   obtain ⟨o,ho,c,_⟩:=id hl;obtain ⟨o',ho',c',_⟩:=id hit;rw [z,ho'] at ho;cases ho;rw [c'] at c;revert c;decide
  obtain ⟨f0,f1,f2,f3,f4,f5⟩:=hf it (by simp);have le:=rv.length;refine wpAny_pyNext_enum_end (I.ok.hd hc) he hit hl (by simp;omega) fun h' eb=>⟨rfl,I.turned (t':=s.toks) (fun b o hb e=>eb b o hb e) f0 f1 f3 f4 f5⟩
 self:=fun _ _ _ _ _ st h=>by
  obtain ⟨⟨old,he⟩,_⟩:=st;exact wpAny_pyIter_enum he h
theorem A3 {P:Program}{w:World}{K:Frag}{es:List Expr}{kk:Nat}{ps:Pos}(a e it:Addr)(hei:e≠it):Turn P w K (.Tuple es kk ps) (LV fun H xs=>SqT K H a xs) [e,it] e (fun i h=>(∃ old,IsEnum h e it i old)/\h.IsTupleIter it a i) where
 mem:=by simp
 obj:=fun i h st b hb=>by
  obtain ⟨⟨old,he⟩,o,ho,hc,hd⟩:=st;rcases au.mp hb with z | z
  ·rw [z];exact ⟨_,he,fun v q=>by cases q⟩
  ·rw [av.mp z];exact ⟨o,ho,fun v q=>by rw [hd] at q;cases q⟩
 keep:=fun i h h' st k=>by
  obtain ⟨⟨old,he⟩,o,ho,r⟩:=st;exact ⟨⟨old,k e (by simp) _ he⟩,o,k it (by simp) o ho,r⟩
 item:=by
  intro X hP hw hK hc i pins s σ H E I hf st hg;subst hP hw hK;obtain ⟨xs,x,hq,hx⟩:=hg;obtain ⟨its,rv,p,hz⟩:=I.tuple hq;obtain ⟨u,hu,ru⟩:=rv.get hx;obtain ⟨⟨old,he⟩,hit⟩:=st;have hl:s.heap.IsTuple a its.toArray:=p;have hne:a≠it:=fun z=>by
   obtain ⟨o,ho,c,_⟩:=id hl;obtain ⟨o',ho',c',_⟩:=id hit;rw [z,ho'] at ho;cases ho;rw [c'] at c;revert c;decide
  have hae:e≠a:=fun z=>by
   obtain ⟨o,ho,c,_⟩:=id hl;rw [← z,he] at ho;cases ho;have c':Value.type "enumerate" = Value.type _:=c;revert c';decide
  have le:e<s.heap.objs.size:=Heap.lt_size he;have li:it<s.heap.objs.size:=by obtain ⟨o,ho,_⟩:=id hit;exact Heap.lt_size ho
  refine wpAny_pyNext_enum_itemD (JO (A:=X.A.in1) (I.ok.hd hc) it a hne its.toArray) he ⟨hit,hl⟩ (by have:=(aj.mp hu).1;simpa using this) hei (by simp [hei,hae]) fun y h1 tk hP ho hst hT hsz hk=>?_;have hy:its[i]? = some y:=by simpa using hP
  rw [hu] at hy;cases hy;refine ⟨_,rfl,wpAny_letOwnedTupleGo_enum ho fun h2 he2 hs2=>?_⟩;obtain ⟨I2,n2⟩:=yz (t2:=tk+1) I hf le li ru hT hk hs2;refine ⟨.ref s.heap.objs.size,_,I2,rfl,⟨_,x,rfl,I.hok.fresh (am _),rfl,fun ys hy=>by rw [I.tuple_inj hy hq];exact hx⟩,⟨⟨_,by simpa using he2⟩,?_⟩,n2⟩;obtain ⟨o,ho1,r⟩:=hst.1;exact ⟨o,(hs2.2 it hei.symm).trans ho1,r⟩
 done:=by
  intro X hP hw hK hc i pins s σ H E I hf st hg;subst hP hw hK;obtain ⟨xs,hq,hx⟩:=hg;obtain ⟨its,rv,p,hz⟩:=I.tuple hq;obtain ⟨⟨old,he⟩,hit⟩:=st;have hl:s.heap.IsTuple a its.toArray:=p;have hne:a≠it:=fun z=>by
   obtain ⟨o,ho,c,_⟩:=id hl;obtain ⟨o',ho',c',_⟩:=id hit;rw [z,ho'] at ho;cases ho;rw [c'] at c;revert c;decide
  obtain ⟨f0,f1,f2,f3,f4,f5⟩:=hf it (by simp);have le:=rv.length;refine Dy (I.ok.hd hc) he hit hl (by simp;omega) fun h' eb=>⟨rfl,I.turned (t':=s.toks) (fun b o hb e=>eb b o hb e) f0 f1 f3 f4 f5⟩
 self:=fun _ _ _ _ _ st h=>by
  obtain ⟨⟨old,he⟩,_⟩:=st;exact wpAny_pyIter_enum he h
def K4 (K:Frag)(ta:TA):TI:=fun σ H R=>ta σ H fun vs H1=>∃ a,vs=[.ref a]/\(((∃ xs,SqL K H1 a xs)/\R (LV fun H xs=>SqL K H a xs) H1)\/((∃ xs,SqT K H1 a xs)/\R (LV fun H xs=>SqT K H a xs) H1))
theorem xV:bootBuiltins "enumerate" = some (.type "enumerate"):=by decide +kernel
theorem Ge {X:Cx} (K:Frag) {es:List Expr} {kk:Nat} {ps:Pos} {a:Expr} {ta:TA} {p pos:Pos} (hg:Gl X "enumerate") (hm:X.mg "enumerate" = none) (ha:PA X [a] ta) (hK:X.K=K:=by rfl) (hs:starEach [a] X.env=[(false,eval a X.env)]:=by rfl):PI X (.Tuple es kk ps) (.Call (.Name "enumerate" p) [a] [] pos) (K4 K ta):=by
 subst hK;intro pins s σ H R I h;refine Call_ (wo I hg hm xV (PyProof.Rows.callWith_type1 (tv (ha pos pins s σ H _ I h) fun us s1 ⟨vs,H1,I1,r1,q1⟩=>?_) hs rfl));obtain ⟨l,e,q1⟩:=q1;subst e;obtain ⟨u,rfl,ru⟩:=Vals.one r1;cases ru;have fp1:∀ {h':Heap},∀ b∈[s1.heap.objs.size+1,s1.heap.objs.size],vi X pins H1 b:=fun b hb=>by
  have hb':s1.heap.objs.size<=b:=by
   rcases au.mp hb with z | z
   ·omega
   ·rw [av.mp z];exact am _
  exact I1.fpOk hb' (I1.hok.fresh hb')
 rcases q1 with ⟨⟨xs,hq⟩,q⟩ | ⟨⟨xs,hq⟩,q⟩
 ·obtain ⟨its,rv,pl,hz⟩:=I1.list hq;refine call_enumerate_list pl.isList fun h' he hit hsz hk=>?_;refine wpAny_pyIter_enum he ?_;exact ⟨_,[s1.heap.objs.size+1,s1.heap.objs.size],_,_,H1,rfl,I1.kept (t':=s1.toks) hk,A4 l _ _ (Nat.succ_ne_self _),⟨⟨_,he⟩,hit⟩,fp1 (h':=h'),q⟩
 ·obtain ⟨its,rv,pl,hz⟩:=I1.tuple hq;refine BC pl fun h' he hit hsz hk=>?_;refine wpAny_pyIter_enum he ?_;exact ⟨_,[s1.heap.objs.size+1,s1.heap.objs.size],_,_,H1,rfl,I1.kept (t':=s1.toks) hk,A3 l _ _ (Nat.succ_ne_self _),⟨⟨_,he⟩,hit⟩,fp1 (h':=h'),q⟩
theorem Mx {X:Cx}(K:Frag)(hK:X.K=K:=by rfl):Lw X (fun o i H Q=>∃ p xs v,∃ j:Nat,o = .ref p/\i = .int j/\SqL K H p xs/\xs[j]? = some v/\Q v H):=by
 subst hK;intro pins s σ H o i ov iv Q I ro ri h;obtain ⟨p,xs,v,j,rfl,rfl,hq,hv,q⟩:=h;cases ro;obtain ⟨t,rfl⟩:=ri;obtain ⟨its,r,pl,hz⟩:=I.list hq;obtain ⟨w,ew,rw'⟩:=r.get hv;have hl:=(aj.mp hv).1;have hn:=uo;exact wpAny_getItem_list pl.isList (by omega) (by omega) (by rw [aS];simpa using ew) ⟨v,H,I,rw',q⟩
end L2
namespace HT
open PySem PyProof.Rows
variable {prog:Program}{w:World}{A:Around}{E:Value->Shared->Prop}{s:Shared}
theorem vg {t sl:Addr}{items:Array Value}{vl vu:Value}{lo hi:Option Int}{Q:Value->Shared->Prop}(ht:IsTup s.heap t items)(hs:s.heap.IsSliceOf sl vl vu .none)(pl:IsPart vl lo)(pu:IsPart vu hi)
  (hw:tM items.size 0 lo=0/\tM items.size items.size hi=items.size) (h:Q (.ref t) s):wpAny (model prog w) A (getItem (.ref t) (.ref sl)) Q E s:=by
 obtain ⟨os,hos,hcs,hds⟩:=id hs;have hTs:s.TypeIs (.ref sl) "slice" := ⟨os,hos,hcs⟩;unfold getItem;try with_reducible refine wpAny_holding ?_
 first | refine wpAny_bind (wpAny_pure ?_) | skip
 refine wpAny_bind (wpAny_sequenceKey ht.typeIs (by decide) ?_);refine wpAny_bind (wpAny_callSpecial?_slot (name:=Str.ofString "__getitem__") ht.typeIs PyProof.Rows.slot_tuple_getitem (wpAny_call_entry PyProof.Rows.slot_tuple_getitem ht.typeIs entry_tuple_getitem ?_ (args_tuple_getitem _ _)));show wpAny _ _ (Builtin.Tuple.tupleItemsOf (.ref t) >>= _) _ _ s;refine wpAny_bind (tupleItemsOf_ ht ?_);refine wpAny_bind (wpAny_typeOf hTs ?_);rw [if_pos (by decide)];refine wpAny_bind (ut hs pl pu ?_);have hyes:(((tM items.size 0 lo:Nat):Int) == 0 && (1:Int) == 1 && (tM items.size items.size hi-tM items.size 0 lo) == items.size)=true:=by
  rw [hw.1,hw.2];simp
 show wpAny _ _ (if (((tM items.size 0 lo:Nat):Int) == 0 && (1:Int) == 1 && (tM items.size items.size hi-tM items.size 0 lo) == items.size)=true then _ else _) _ _ s;rw [if_pos hyes];refine wpAny_bind (m:=Builtin.Tuple.tupleIsExact _) ?_;unfold Builtin.Tuple.tupleIsExact;refine wpAny_bind (wpAny_typeOf ht.typeIs (wpAny_pure ?_));rw [if_pos (by decide)];first
  | exact wpAny_bind (wpAny_rule (wpAny_bind (wpAny_pure (wpAny_pure ⟨_,rfl,wpAny_pure h⟩))))
  | exact wpAny_bind (wpAny_rule (wpAny_pure ⟨_,rfl,wpAny_pure h⟩))
  | exact wpAny_bind (wpAny_rule (wpAny_bind (wpAny_pure ⟨_,rfl,wpAny_pure h⟩)))
end HT
namespace Po
open L2
theorem GW {P:List Int}{f:Nat->Int}{B B':Int}(F:Fm P B)(h:∀ k,P.getD k 0*B'=f k*B):B.natAbs∣B'.natAbs:=by
 have q:=BG (c:=B'.natAbs) (d:=B.natAbs) P B.natAbs (dj _ _) fun t ht=>by
  obtain ⟨k,rfl⟩:=getD_mem ht;have e:=congrArg Int.natAbs (h k);rw [aR,aR] at e;rw [bQ,e];exact dj _ _
 rw [F.gcd,dZ] at q;exact q
theorem size {P:List Int}{f:Nat->Int}{B b:Int}(F:Fm P B)(hb:0<b)(h:∀ k,P.getD k 0*b=f k*B):B.natAbs<=b.natAbs/\∀ k,(P.getD k 0).natAbs<=(f k).natAbs:=by
 have d:B.natAbs<=b.natAbs:=cR (by omega) (GW F h);refine ⟨d,fun k=>?_⟩;have e:=congrArg Int.natAbs (h k);rw [aR,aR] at e;have:(P.getD k 0).natAbs*b.natAbs<=(f k).natAbs*b.natAbs:=by
  rw [e];exact ak _ d
 exact Nat.le_of_mul_le_mul_right this (by omega)
theorem same {P P':List Int}{f g:Nat->Int}{B B' b c:Int}(F:Fm P B)(F':Fm P' B')(hb:b≠0)(hc:c≠0)(h:∀ k,P.getD k 0*b=f k*B)(h':∀ k,P'.getD k 0*c=g k*B')(e:∀ k,f k*c=g k*b):P=P'/\B=B':=by
 refine uniq F F' fun k=>?_;have h1:=h k;have h2:=h' k;have h3:=e k;refine aJ hb (aJ hc ?_);generalize P.getD k 0=x at *;generalize P'.getD k 0=x' at *;generalize f k=y at *;generalize g k=y' at *
 calc x*B'*b*c=(x*b)*B'*c:=by grind
  _=y*B*B'*c:=by rw [h1]
  _=(y*c)*B*B':=by grind
  _=(y'*b)*B*B':=by rw [h3]
  _=(y'*B')*B*b:=by grind
  _=(x'*c)*B*b:=by rw [h2]
  _=x'*B*b*c:=by grind
end Po
namespace Cv
open L2
def sm (F:Nat->Int):Nat->Int
 | 0=>0
 | n+1=>sm F n+F n
theorem sW {F G:Nat->Int}{n:Nat}(h:∀ j,j<n->F j=G j):sm F n=sm G n:=by
 induction n with
 | zero=>rfl
 | succ n ih=>rw [sm,sm,ih fun j hj=>h j (by omega),h n (by omega)]
theorem ux {F:Nat->Int}{n m:Nat}(h:n<=m)(z:∀ j,n<=j->j<m->F j=0):sm F m=sm F n:=by
 induction m with
 | zero=>rw [show n=0 by omega]
 | succ m ih =>
  rcases cC h with e | e
  ·rw [e]
  ·rw [sm,ih (by omega) fun j a b=>z j a (by omega),z m (by omega) (by omega),cq]
def cv (f g:Nat->Int)(k:Nat):Int:=sm (fun j=>f j*g (k-j)) (k+1)
def tm (f g:Nat->Int)(i m:Nat):Int:=sm (fun j=>if j<=m then f j*g (m-j) else 0) i
theorem vj {f g:Nat->Int}{n m:Nat}(hf:∀ j,n<=j->f j=0):tm f g n m=cv f g m:=by
 unfold tm cv;have e1:sm (fun j=>if j<=m then f j*g (m-j) else 0) (max n (m+1))=sm (fun j=>if j<=m then f j*g (m-j) else 0) n:=ux (by omega) fun j a b=>by
  show (if j<=m then f j*g (m-j) else 0)=0;rw [hf j a,aL];split <;> rfl
 have e2:sm (fun j=>if j<=m then f j*g (m-j) else 0) (max n (m+1))=sm (fun j=>if j<=m then f j*g (m-j) else 0) (m+1):=ux (by omega) fun j a b=>if_neg (by omega);rw [← e1,e2];exact sW fun j hj=>if_pos (by omega)
theorem yN (f g:Nat->Int)(i m:Nat):tm f g (i+1) m=tm f g i m+(if i<=m then f i*g (m-i) else 0):=rfl
theorem tX {f g:Nat->Int}{a b k:Nat}(hf:∀ j,a<=j->f j=0)(hg:∀ j,b<=j->g j=0)(h:a+b-1<=k):cv f g k=0:=by
 unfold cv;have:sm (fun j=>f j*g (k-j)) (k+1)=sm (fun j=>f j*g (k-j)) 0:=ux (aC _) fun j _ hj=>by
  show f j*g (k-j)=0;rcases ao j a with c | c
  ·rw [hg (k-j) (by omega),bw]
  ·rw [hf j c,aL]
 rw [this];rfl
theorem wU {f g:Nat->Int}{k:Nat}(h:∀ j,f j=0):cv f g k=0:=by
 unfold cv;have:sm (fun j=>f j*g (k-j)) (k+1)=sm (fun j=>f j*g (k-j)) 0:=ux (aC _) fun j _ _=>by
  show f j*g (k-j)=0;rw [h j,aL]
 rw [this];rfl
theorem Fg {f g:Nat->Int}{k:Nat}(h:∀ j,g j=0):cv f g k=0:=by
 unfold cv;have:sm (fun j=>f j*g (k-j)) (k+1)=sm (fun j=>f j*g (k-j)) 0:=ux (aC _) fun j _ _=>by
  show f j*g (k-j)=0;rw [h,bw]
 rw [this];rfl
theorem DY {F:Nat->Int}{n b:Nat}:∀ {i:Nat},i<=2^b->(∀ j,j<i->Lt2 n (F j))->(sm F i).natAbs<=i*2^n
 | 0,_,_=>by simp [sm]
 | i+1,h,hF=>by
  have ih:=DY (b:=b) (i:=i) (by omega) fun j hj=>hF j (by omega);have h1:=hF i (by omega);unfold Lt2 at h1;rw [sm,bo];omega
theorem CP {f g:Nat->Int}{n m k b:Nat}(hf:∀ j,Lt2 n (f j))(hg:∀ j,Lt2 m (g j))(hk:k+1<2^b):Lt2 (n+m+b) (cv f g k):=by
 have:=DY (F:=fun j=>f j*g (k-j)) (n:=n+m) (b:=b) (i:=k+1) (by omega) fun j _=>(hf j).mul (hg _);unfold Lt2 cv;rw [dY 2 (n+m) b];have p:0<2^(n+m):=bA (by decide);refine b8 this ?_;rw [bQ];exact gG hk p
theorem tD {f g f' g':Nat->Int}{k:Nat}(h:∀ j,f j=f' j)(h':∀ j,g j=g' j):cv f g k=cv f' g' k:=sW fun j _=>by rw [h,h']
theorem uy (F:Nat->Int)(c:Int)(n:Nat):sm (fun j=>F j*c) n=sm F n*c:=by
 induction n with
 | zero=>simp [sm]
 | succ n ih=>rw [sm,sm,ih,fj]
theorem uW (f g:Nat->Int)(c:Int)(k:Nat):cv (fun j=>f j*c) g k=cv f g k*c:=by
 unfold cv;rw [← uy];exact sW fun j _=>by grind
theorem u5 (F:Nat->Int)(n:Nat):sm F (n+1)=F 0+sm (fun j=>F (j+1)) n:=by
 induction n with
 | zero=>simp [sm]
 | succ n ih=>rw [sm,ih,sm];omega
theorem DX (F:Nat->Int)(n:Nat):sm F n=sm (fun j=>F (n-1-j)) n:=by
 induction n generalizing F with
 | zero=>rfl
 | succ n ih =>
  rw [u5 (fun j=>F (n+1-1-j)) n,sm,ih F];have:sm (fun j=>F (n-1-j)) n=sm (fun j=>F (n+1-1-(j+1))) n:=sW fun j hj=>by rw [show n+1-1-(j+1)=n-1-j by omega]
  rw [this,show n+1-1-0=n by omega];omega
theorem vZ (f g:Nat->Int)(k:Nat):cv f g k=cv g f k:=by
 unfold cv;rw [DX];refine sW fun j hj=>?_;rw [show k+1-1-j=k-j by omega,show k-(k-j)=j by omega,bt]
def fn (P:List Int):Nat->Int:=fun j=>P.getD j 0
theorem sT {P:List Int}{j:Nat}(h:P.length<=j):fn P j=0:=by
 unfold fn;rw [ac,br h];rfl
end Cv
namespace RV
open PySem PyProof.Rows
theorem An:Manifest.owners.lookup (String.ofList ['d','e','s','r','e','v','e','r'].reverse)=some Manifest.sig_reversed:=by kernel_rfl
theorem slot_next:Slot "reversed" "__next__" "reversed.__next__" := .of (owner := "reversed") (n := "__next__") (by rw [typeLookup_type,builtinLookup_eq_fast];kernel_rfl) (by decide +kernel) (by decide +kernel) (by decide +kernel) (by first | exact .inl (by decide +kernel) | exact .inr (by decide +kernel)) (by rw [isSubtype_type];kernel_rfl)
theorem yi:Slot "reversed" "__iter__" "reversed.__iter__" := .of (owner := "reversed") (n := "__iter__") (by rw [typeLookup_type,builtinLookup_eq_fast];kernel_rfl) (by decide +kernel) (by decide +kernel) (by decide +kernel) (by first | exact .inl (by decide +kernel) | exact .inr (by decide +kernel)) (by rw [isSubtype_type];kernel_rfl)
theorem C3:Slot "reversed" "__init__" "object.__init__" := .of (owner := "object") (n := "__init__") (by rw [typeLookup_type,builtinLookup_eq_fast];kernel_rfl) (by decide +kernel) (by decide +kernel) (by decide +kernel) (by first | exact .inl (by decide +kernel) | exact .inr (by decide +kernel)) (by rw [isSubtype_type];kernel_rfl)
theorem xN:entryFor table "reversed.__next__" = some Builtin.«reversed.__next__» := entryFor_of_tree (by kernel_rfl)
theorem BE:entryFor table "reversed.__iter__" = some Builtin.«dict_keyiterator.__iter__» := entryFor_alias (id' := "dict_keyiterator.__iter__") (by kernel_rfl) (by first | rfl | decide +kernel | (unfold String.splitOn;simp +decide [String.splitOnAux])) (by decide +kernel) (by kernel_rfl)
theorem yH (a:Value):argsOk "reversed.__next__" ⟨[a],[]⟩:=by
 unfold argsOk;rw [signature?_of (id := "reversed.__next__") (n:=['_','_','t','x','e','n','_','_']) (o:=['d','e','s','r','e','v','e','r']) (by kernel_rfl) An];kernel_rfl
theorem DG (a:Value):argsOk "reversed.__iter__" ⟨[a],[]⟩:=by
 unfold argsOk;rw [signature?_of (id := "reversed.__iter__") (n:=['_','_','r','e','t','i','_','_']) (o:=['d','e','s','r','e','v','e','r']) (by kernel_rfl) An];kernel_rfl
theorem Jw:typeLookup (.type "tuple") "__reversed__" = pure none:=by rw [typeLookup_type,builtinLookup_eq_fast];kernel_rfl
theorem JR:TypeCalled "reversed" "reversed.__new__" "object.__init__" := ⟨by decide +kernel,by decide +kernel,⟨_,_,F.mro_reversed⟩,F.made_reversed,by decide +kernel,by rw [isSubtype_type];kernel_rfl,C3⟩
theorem Gy:isSubtype (.type "tuple") (.type "dict")=pure false:=by rw [isSubtype_type];kernel_rfl
section
variable {prog:Program}{w:World}{A:Around}{E:Value->Shared->Prop}{s:Shared}
theorem Dl (t:Addr)(items:Array Value)(n:Nat)(dct:Option Addr)(sl:Array (Option Value)) :
  Meets (Builtin.«reversed.__new__» ⟨[.type "reversed",.ref t],[]⟩) (fun _ R s=>s.heap.get? t=some { cls:=.type "tuple",dict:=dct,data:=.seq items n,slots:=sl }/\(items.size:Int)<2^63 /\
   ∀ tk,R (.ok (.ret (.ref s.heap.objs.size))) { s with heap:=s.heap.push { cls:=.type "reversed",data:=.fields #[.ref t,rawInt ((items.size:Int)-1)] },toks:=tk }) :=
 .of_wp fun prog w A R s h=>by
  obtain ⟨ht,hsz,h⟩:=h;have hT:s.heap.IsTuple t items:=⟨_,ht,rfl,n,rfl⟩;unfold Builtin.«reversed.__new__»;refine wpAny_bind (wpAny_of_eq (newClass_reversed _) ?_);try dsimp only
  refine wpAny_bind (wpAny_of_eq (a:=()) (by first | rfl | kernel_rfl) ?_);refine wpAny_bind (wpAny_of_eq (a:=()) (by first | rfl | kernel_rfl) ?_);try dsimp only
  refine wpAny_bind (wpAny_specialOf hT.typeIs Jw ?_);try dsimp only
  refine wpAny_bind ?_;show wpAny _ _ (isInstance (.ref t) (.type "dict") >>= _) _ _ s;refine wpAny_bind (wpAny_isInstance hT.typeIs Gy ?_);try dsimp only
  show wpAny _ _ (if false=true then _ else _) _ _ s;rw [if_neg aF];refine wpAny_bind (wpAny_specialOf hT.typeIs PyProof.Rows.slot_tuple_getitem.lookup ?_);try dsimp only
  show wpAny _ _ (if _=true then _ else _) _ _ s;rw [if_pos (by decide)];refine wpAny_pure ?_;show wpAny _ _ (if (!true)=true then _ else _) _ _ s;rw [if_neg (by decide)];refine wpAny_bind (PyProof.Rows.len_tuple hT hsz ?_);refine wpAny_bind (m:=asInt? _) (wpAny_pure ?_);try dsimp only
  refine wpAny_bind ?_;show wpAny _ _ (newObj (.type "reversed") (.fields #[.ref t,rawInt ((items.size:Int)-1)])) _ _ _;refine wpAny_newObj_type ?_ (by size_fits);exact wpAny_pure ⟨_,rfl,h _⟩
theorem Fu {t:Addr}{items:Array Value}{Q:Value->Shared->Prop}(hT:s.heap.IsTuple t items)(hsz:(items.size:Int)<2^63)
  (h:∀ tk,Q (.ref s.heap.objs.size) { s with heap:=s.heap.push { cls:=.type "reversed",data:=.fields #[.ref t,rawInt ((items.size:Int)-1)] },toks:=tk }):wpAny (model prog w) A (call (.type "reversed") [.ref t]) Q E s:=by
 obtain ⟨⟨c,dct,dt,sl⟩,hl,hc,n,hd⟩:=hT;have hc':c = .type "tuple" := hc;have hd':dt = .seq items n:=hd;subst hc' hd';refine callType_new JR (by decide) (F.typeCall_reversed_1 _) (F.newCall_reversed_1 _) (fun obj=>F.args_object_init_2 obj _) F.entry_reversed_new (Dl t items n dct sl) ⟨hl,hsz,fun tk=>?_⟩;exact ⟨⟨_,Heap.get?_push_size _ rfl,rfl⟩,h tk⟩
def Is (h:Heap)(a t:Addr)(i:Int):Prop:=∃ o,h.get? a=some o/\o.cls = .type "reversed" /\ o.data = .fields #[.ref t,rawInt i]
theorem Is.ty {a t:Addr}{i:Int}(x:Is s.heap a t i):s.TypeIs (.ref a) "reversed" := let ⟨o,ho,hc,_⟩:=x;⟨o,ho,hc⟩
theorem yq {a t:Addr}{i:Int}{Q:Value->Shared->Prop}(x:Is s.heap a t i)(h:Q (.ref a) s):wpAny (model prog w) A (pyIter (.ref a)) Q E s:=by
 refine wpAny_pyIter_slot x.ty yi (wpAny_call_entry yi x.ty BE ?_ (DG _));show wpAny _ _ (ret (.ref a)) _ _ s;exact wpAny_pure ⟨_,rfl, "reversed",_,x.ty,slot_next.lookup,h⟩
theorem Dk {it t:Addr}{i:Nat}{items:Array Value}{x:Value}{Q:Option Value->Shared->Prop}(hit:Is s.heap it t (i:Int))(hT:s.heap.IsTuple t items)(hx:items[i]? = some x)(hsz:(items.size:Int)<2^63)
  (hQ:∀ h' tk,Is h' it t ((i:Int)-1)->Heap.SameBut it s.heap h'->Q (some x) { s with heap:=h',toks:=tk }):wpAny (model prog w) A (pyNext (.ref it)) Q E s:=by
 obtain ⟨o,ho,hc,hd⟩:=id hit;unfold pyNext;refine wpAny_bind (wpAny_attempt (wpAny_callSpecial?_slot (name:=Str.ofString "__next__") hit.ty slot_next (wpAny_call_entry slot_next hit.ty xN ?_ (yH _))));unfold Builtin.«reversed.__next__»;refine wpAny_bind (wpAny_of_eq (a:=(Value.ref it,[])) rfl ?_);try dsimp only
 refine wpAny_bind (wpAny_field ho hd (x:=.ref t) rfl ?_);refine wpAny_bind (wpAny_field ho hd (x:=rawInt (i:Int)) rfl ?_);try dsimp only [rawInt]
 rw [if_neg (by omega)];refine wpAny_bind (wpAny_specialOf hT.typeIs PyProof.Rows.slot_tuple_getitem.lookup ?_);show wpAny _ _ (if false=true then _ else _) _ _ s;rw [if_neg aF];refine wpAny_bind (wpAny_mkInt ?_);have hlt:i<items.size:=(Array.getElem?_eq_some_iff.mp hx).1;refine wpAny_bind (wpAny_attempt ?_);refine PyProof.Rows.getItem_tuple (j:=i) (x:=x) hT (by omega) (by omega) (by unfold seqIndex?;simp;omega) hx ?_;try dsimp only
 refine wpAny_bind (wpAny_field (s:={ s with toks:=s.toks+1 }) ho hd (x:=rawInt (i:Int)) rfl ?_);try dsimp only [rawInt]
 refine wpAny_bind (wpAny_setField (s:={ s with toks:=s.toks+1 }) ho hd (by simp) (wpAny_pure ⟨x,rfl,wpAny_pure (hQ _ _ ?_ (Heap.SameBut.update ..))⟩));exact ⟨_,Heap.get?_update_self _ ho (Obj.isFreed_of_fields (Obj.data_mapFields hd _)),(Obj.cls_mapFields ..).trans hc,by rw [Obj.data_mapFields hd];simp [rawInt]⟩
theorem EM {it t:Addr}{Q:Option Value->Shared->Prop}(hh:A.handled=none)(hit:Is s.heap it t (-1))(hQ:∀ h',Heap.ExtBut it s.heap h'->Q none { s with heap:=h' }):wpAny (model prog w) A (pyNext (.ref it)) Q E s:=by
 obtain ⟨o,ho,hc,hd⟩:=id hit;unfold pyNext;refine wpAny_bind (wpAny_attempt (wpAny_callSpecial?_slot (name:=Str.ofString "__next__") hit.ty slot_next (wpAny_call_entry slot_next hit.ty xN ?_ (yH _))));unfold Builtin.«reversed.__next__»;refine wpAny_bind (wpAny_of_eq (a:=(Value.ref it,[])) rfl ?_);try dsimp only
 refine wpAny_bind (wpAny_field ho hd (x:=.ref t) rfl ?_);refine wpAny_bind (wpAny_field ho hd (x:=rawInt (-1)) rfl ?_);try dsimp only [rawInt]
 rw [if_pos (by decide)];refine wpAny_bind (wpAny_rule ?_);refine wpAny_bind ?_;show wpAny _ _ (setField (.ref it) 1 (rawInt (-1)) >>= _) _ _ s;refine wpAny_bind (wpAny_setField ho hd (by simp) ?_);have ho':=Heap.get?_update_self (h:=s.heap) (Obj.mapFields (·.setIfInBounds 1 (rawInt (-1)))) ho (Obj.isFreed_of_fields (Obj.data_mapFields hd _));refine wpAny_setField ho' (Obj.data_mapFields hd _) (by simp) ?_;refine wpAny_bind ?_;unfold Builtin.SmallTypes.stopIteration;refine wpAny_bind ?_;simp only [newExc,newTuple];refine wpAny_bind (wpAny_newObj_type ?_ (by size_fits));refine wpAny_bind (m:=firstArgMember _ _) (wpAny_of_eq (a:=Value.none) (by first | rfl | (simp only [firstArgMember];rfl)) ?_);refine wpAny_newObj_type ?_ (by size_fits);simp only [raiseNew];refine wpAny_bind (wpAny_handled ?_);first | rw [show A.in1.handled=none from hh] | rw [hh]
 refine wpAny_bind (wpAny_pure (wpAny_throw ?_));refine wpAny_bind (wpAny_isInstance (T := "StopIteration") (b:=true) ⟨_,Heap.get?_push_size _ rfl,rfl⟩ isSubtype_stop ?_);refine wpAny_pure (hQ _ fun b o hb e=>?_);refine Heap.get?_push_of_some _ (Heap.get?_push_of_some _ ?_);exact (Heap.SameBut.update ..).extBut b o hb ((Heap.SameBut.update ..).extBut b o hb e)
end
end RV
namespace L2
open PySem PySem.Spec PyProof.Rows
theorem DP {P:Program}{w:World}{K:Frag}{tg:Expr}(n:Nat)(a it:Addr):Turn P w K tg (⟨fun i H=>i<n/\∃ xs x,SqT K H a xs/\xs.length=n/\xs.reverse[i]? = some x,fun i H x H'=>H'=H/\∀ xs,SqT K H a xs->xs.reverse[i]? = some x,fun i H=>i=n⟩:It) [it] it (fun i h=>RV.Is h it a ((n:Int)-1-(i:Int))) where
 mem:=by simp
 obj:=fun i h st b hb=>by
  have e:b=it:=by simpa using hb
  subst e;obtain ⟨o,e,c,d⟩:=st;exact ⟨o,e,fun v z=>by rw [d] at z;cases z⟩
 keep:=fun i h h' st k=>by
  obtain ⟨o,e,r⟩:=st;exact ⟨o,k it (by simp) o e,r⟩
 item:=by
  intro X hP hw hK hc i pins s σ H E I hf st hg;subst hP hw hK;obtain ⟨hlt,xs,x,hq,hn,hx⟩:=hg;obtain ⟨its,rv,p,hz⟩:=I.tuple hq;have hlen:=rv.length;rw [bX (by omega)] at hx;obtain ⟨u,hu,ru⟩:=rv.get hx;obtain ⟨f0,f1,f2,f3,f4,f5⟩:=hf it (by simp);have e0:(n:Int)-1-(i:Int)=((xs.length-1-i:Nat):Int):=by omega
  have st':RV.Is s.heap it a ((xs.length-1-i:Nat):Int):=by rw [← e0];exact st
  have hn63:=uo;refine RV.Dk (i:=xs.length-1-i) st' (show s.heap.IsTuple a its.toArray from p) (x:=u) (by simpa using hu) (by rw [ai];omega) fun h' tk st2 sb=>?_;have I1:Inv X pins σ H { s with heap:=h',toks:=tk }:=I.turned (t':=tk) (fun b o hb e=>(sb.2 b hb).trans e) f0 f1 f3 f4 f5;obtain ⟨o,e,c,d⟩:=id st2;refine ⟨u,rfl,AE (s:={ s with heap:=h',toks:=tk }) e c d (by decide) ⟨x,H,I1,ru,⟨rfl,fun ys hy=>?_⟩,?_,fun b hb=>(hf b hb).1⟩⟩
  ·rw [I.tuple_inj hy hq,bX (by omega)];exact hx
  ·show RV.Is h' it a ((n:Int)-1-((i+1:Nat):Int));rw [show (n:Int)-1-((i+1:Nat):Int)=((xs.length-1-i:Nat):Int)-1 by omega];exact st2
 done:=by
  intro X hP hw hK hc i pins s σ H E I hf st hg;subst hP hw hK;have hg':i=n:=hg;subst hg';obtain ⟨f0,f1,f2,f3,f4,f5⟩:=hf it (by simp);have st':RV.Is s.heap it a (-1):=by
   have e:(i:Int)-1-(i:Int) = -1:=by omega
   rw [← e];exact st
  exact RV.EM (I.ok.hd hc) st' fun h' eb=>⟨rfl,I.turned (t':=s.toks) (fun b o hb e=>eb b o hb e) f0 f1 f3 f4 f5⟩
 self:=fun _ _ _ _ _ st h=>RV.yq st h
end L2
namespace Hv
open L2
def hv (F:Nat->Int)(t u:Int):Nat->Int
 | 0=>0
 | n+1=>(hv F t u n+F n*t^n)*u
theorem tx {r:Nat}{u:Int}(h:Lt2 r u):∀ i,Lt2 (r*i+1) (u^i)
 | 0=>by rw [aT];unfold Lt2;exact aE (show (1:Int).natAbs<2^1 by decide) (bE (by decide) (by omega))
 | i+1=>by
  rw [aI];exact ((tx h i).mul h).mono (by rw [bJ];omega)
theorem pow_pos {u:Int}(h:0<u):∀ i:Nat,0<u^i
 | 0=>by rw [aT];decide
 | i+1=>by rw [aI];exact az (pow_pos h i) h
theorem uS {F G:Nat->Int}{t u:Int}{n:Nat}(h:∀ j,j<n->F j=G j):hv F t u n=hv G t u n:=by
 induction n with
 | zero=>rfl
 | succ n ih=>rw [hv,hv,ih fun j hj=>h j (by omega),h n (by omega)]
theorem yv {F:Nat->Int}{t u:Int}{n:Nat}(h:∀ k,n<=k->F k=0):∀ j,hv F t u (n+j)=hv F t u n*u^j
 | 0=>by rw [gT,aT,bh]
 | j+1=>by rw [← eJ,hv,yv h j,h (n+j) (by omega),aL,cq,aI,bY]
theorem zq (F G:Nat->Int)(t u:Int):∀ n,hv (fun k=>F k+G k) t u n=hv F t u n+hv G t u n
 | 0=>rfl
 | n+1=>by rw [hv,hv,hv,zq F G t u n];grind
theorem vH (F:Nat->Int)(c t u:Int):∀ n,hv (fun k=>F k*c) t u n=hv F t u n*c
 | 0=>by simp [hv]
 | n+1=>by rw [hv,hv,vH F c t u n];grind
theorem zo {F:Nat->Int}{t u:Int}{n:Nat}(h:∀ j,j<n->F j=0):hv F t u n=0:=by
 induction n with
 | zero=>rfl
 | succ n ih=>rw [hv,ih fun j hj=>h j (by omega),h n (by omega)];simp
theorem AB (g:Nat->Int)(c t u:Int)(i:Nat):∀ k,hv (fun m=>if i<=m then c*g (m-i) else 0) t u (i+k)=c*t^i*hv g t u k
 | 0=>by
  rw [gT,zo fun j hj=>if_neg (by omega)];simp [hv]
 | k+1=>by
  rw [← eJ,hv,AB g c t u i k,if_pos (by omega),show i+k-i=k by omega,hv,cQ];grind
theorem HX (f g:Nat->Int)(t u:Int){m:Nat}(hg:∀ k,m<=k->g k=0)(n:Nat):∀ i,i<=n->hv (fun k=>Cv.tm f g i k) t u (n+m)=hv f t u i*u^(n-i)*hv g t u m
 | 0,_=>by
  rw [zo (F:=fun k=>Cv.tm f g 0 k) fun j _=>rfl];simp [hv]
 | i+1,h=>by
  have ih:=HX f g t u hg n i (by omega);have e:hv (fun k=>Cv.tm f g (i+1) k) t u (n+m)=hv (fun k=>Cv.tm f g i k+(if i<=k then f i*g (k-i) else 0)) t u (n+m):=uS fun j _=>rfl;rw [e,zq,ih];obtain ⟨d,rfl⟩:∃ d,n=i+1+d:=⟨n-(i+1),by omega⟩;have e2:i+1+d+m=i+(m+(d+1)):=by omega
  rw [e2,AB,yv hg (d+1),hv,show i+1+d-i=d+1 by omega,show i+1+d-(i+1)=d by omega,aI];grind
theorem H0 {f g:Nat->Int}{t u:Int}{n m:Nat}(hf:∀ k,n<=k->f k=0)(hg:∀ k,m<=k->g k=0):hv (Cv.cv f g) t u (n+m)=hv f t u n*hv g t u m:=by
 have e:=HX f g t u hg n n (am _);rw [cD,aT,bh] at e;rw [← e];exact uS fun j _=>(Cv.vj hf).symm
end Hv
namespace Pc
open L2 Cv Hv
theorem DZ (F:Nat->Int)(i:Nat):∀ n,sm F (i+n)=sm F i+sm (fun j=>F (i+j)) n
 | 0=>by simp [sm]
 | n+1=>by rw [← eJ,sm,DZ F i n,sm];omega
theorem vA (F G:Nat->Int):∀ n,sm (fun j=>F j+G j) n=sm F n+sm G n
 | 0=>rfl
 | n+1=>by rw [sm,sm,sm,vA F G n];omega
theorem AK (f g h:Nat->Int)(k:Nat):cv (fun j=>f j+g j) h k=cv f h k+cv g h k:=by
 unfold cv;rw [← vA];exact sW fun j _=>by rw [fj]
theorem Fk (f g h:Nat->Int)(k:Nat):cv h (fun j=>f j+g j) k=cv h f k+cv h g k:=by
 unfold cv;rw [← vA];exact sW fun j _=>by rw [Int.mul_add]
theorem Fj (f g:Nat->Int)(c:Int)(k:Nat):cv f (fun j=>g j*c) k=cv f g k*c:=by
 unfold cv;rw [← uy];exact sW fun j _=>by grind
theorem AH (g h:Nat->Int)(c:Int)(i k:Nat):cv (fun m=>if i<=m then c*g (m-i) else 0) h k=if i<=k then c*cv g h (k-i) else 0:=by
 unfold cv;by_cases hk:i<=k
 ·rw [if_pos hk];obtain ⟨d,rfl⟩:∃ d,k=i+d:=⟨k-i,by omega⟩;rw [show i+d+1=i+(d+1) by omega,DZ];have e1:sm (fun j=>(if i<=j then c*g (j-i) else 0)*h (i+d-j)) i=0:=by
   rw [ux (n:=0) (aC _) fun j _ hj=>by show (if i<=j then _ else 0)*_=0;rw [if_neg (by omega),aL]];rfl
  rw [e1,cJ,show i+d-i=d by omega,bt c,← uy];refine sW fun j _=>?_;show (if i<=i+j then c*g (i+j-i) else 0)*h (i+d-(i+j))=g j*h (d-j)*c;rw [if_pos (by omega),show i+j-i=j by omega,show i+d-(i+j)=d-j by omega];grind
 ·rw [if_neg hk,ux (n:=0) (aC _) fun j _ hj=>by show (if i<=j then _ else 0)*_=0;rw [if_neg (by omega),aL]];rfl
theorem Ih (f g h:Nat->Int):∀ (n k:Nat),cv (fun m=>tm f g n m) h k=tm f (fun m=>cv g h m) n k
 | 0,k=>by
  have:cv (fun m=>tm f g 0 m) h k=0:=wU fun j=>rfl;rw [this];rfl
 | n+1,k=>by
  rw [yN,← Ih f g h n k,← AH g h (f n) n k,← AK];rfl
theorem v3 {f g h:Nat->Int}{n:Nat}(hf:∀ k,n<=k->f k=0)(k:Nat):cv (fun m=>cv f g m) h k=cv f (fun m=>cv g h m) k:=by
 rw [← vj (g:=fun m=>cv g h m) hf,← Ih f g h n k];exact tD (fun j=>(vj hf).symm) fun _=>rfl
def d0:Nat->Int:=fun k=>if k=0 then 1 else 0
theorem xP (f:Nat->Int)(k:Nat):cv d0 f k=f k:=by
 have:tm d0 f 1 k=cv d0 f k:=vj fun j hj=>by show (if j=0 then (1:Int) else 0)=0;rw [if_neg (by omega)]
 rw [← this];show 0+(if 0<=k then d0 0*f (k-0) else 0)=f k;rw [if_pos (aC _),bZ];show 0+1*f k=f k;omega
def cp (g:Nat->Int):Nat->(Nat->Int)
 | 0=>d0
 | n+1=>fun k=>cv (cp g n) g k
theorem wy {g:Nat->Int}{m:Nat}(hg:∀ k,m<=k->g k=0):∀ (n k:Nat),n*m+1<=k->cp g n k=0
 | 0,k,h=>by show (if k=0 then (1:Int) else 0)=0;rw [if_neg (by omega)]
 | n+1,k,h=>tX (a:=n*m+1) (b:=m) (wy hg n) hg (by rw [bo] at h;omega)
def pc (F g:Nat->Int)(U:Int):Nat->(Nat->Int)
 | 0=>fun _=>0
 | n+1=>fun k=>(pc F g U n k+F n*cp g n k)*U
theorem yX {F g:Nat->Int}{U:Int}{m:Nat}(hg:∀ k,m<=k->g k=0):∀ (n k:Nat),n*m+1<=k->pc F g U n k=0
 | 0,_,_=>rfl
 | n+1,k,h=>by
  rw [bo] at h;show (pc F g U n k+F n*cp g n k)*U=0;rw [yX hg n k (by omega),wy hg n k (by omega)];simp
theorem E4 {F g M:Nat->Int}{U:Int}{L i k:Nat}{m:Nat}(hg:∀ k,m<=k->g k=0)(hi:i<L)(h:∀ j,pc F g U L j=U^i*pc F g U (L-i) j+U*cv (cp g (L-i)) M j)(M':Nat->Int)(hM:∀ j,M' j=cv M g j+(if j=0 then F (L-1-i)*U^i else 0)) :
  pc F g U L k=U^(i+1)*pc F g U (L-(i+1)) k+U*cv (cp g (L-(i+1))) M' k:=by
 obtain ⟨d,rfl⟩:∃ d,L=i+1+d:=⟨L-(i+1),by omega⟩;rw [h k,show i+1+d-i=d+1 by omega,show i+1+d-(i+1)=d by omega,pc,aI];have e1:cv (cp g (d+1)) M k=cv (cp g d) (fun m=>cv M g m) k:=by
  show cv (fun m=>cv (cp g d) g m) M k=_;rw [v3 (n:=d*m+1) (wy hg d)];exact tD (fun _=>rfl) fun j=>vZ _ _ _
 have e2:cv (cp g d) M' k=cv (cp g d) (fun m=>cv M g m) k+cp g d k*(F d*U^i):=by
  have:cv (cp g d) M' k=cv (cp g d) (fun j=>cv M g j+d0 j*(F d*U^i)) k:=tD (fun _=>rfl) fun j=>by
   rw [hM j,show i+1+d-1-i=d by omega];unfold d0;by_cases z:j=0
   ·rw [if_pos z,if_pos z,bV]
   ·rw [if_neg z,if_neg z,aL]
  rw [this,Fk,Fj,vZ (cp g d) d0,xP]
 rw [e1,e2];show U^i*((pc F g U d k+F d*cp g d k)*U)+_=_;grind
theorem JH {t u:Int}:hv d0 t u 1=u:=by
 show (0+d0 0*t^0)*u=u;rw [aT];show (0+1*1)*u=u;omega
theorem H8 {g:Nat->Int}{t u:Int}{m:Nat}(hg:∀ k,m<=k->g k=0):∀ n,hv (cp g n) t u (n*m+1)=hv g t u m^n*u
 | 0=>by
  rw [gQ,gR,aT,bV];exact JH
 | n+1=>by
  rw [show (n+1)*m+1=(n*m+1)+m by rw [bo];omega];show hv (cv (cp g n) g) t u _=_;rw [H0 (wy hg n) hg,H8 hg n,aI];grind
theorem HZ {F g:Nat->Int}{U t u:Int}{m:Nat}(hg:∀ k,m<=k->g k=0):∀ n,hv (pc F g U n) t u (n*m+1)=u*hv F (hv g t u m) (U*u^m) n
 | 0=>by
  rw [zo (F:=pc F g U 0) fun j _=>rfl];simp [hv]
 | n+1=>by
  have e:(n+1)*m+1=(n*m+1)+m:=by rw [bo];omega
  have e1:hv (pc F g U (n+1)) t u ((n+1)*m+1)=(hv (pc F g U n) t u ((n+1)*m+1)+hv (cp g n) t u ((n+1)*m+1)*F n)*U:=by
   rw [← vH (cp g n) (F n),← zq,← vH];exact uS fun j _=>by show (pc F g U n j+F n*cp g n j)*U=_;rw [bt (F n)]
  rw [e1,e,yv (yX hg n) m,yv (wy hg n) m,HZ hg n,H8 hg n,hv];grind
theorem xK (F:Nat->Int)(t u c:Int):∀ n,hv F (t*c) (u*c) n=hv F t u n*c^n
 | 0=>by simp [hv]
 | n+1=>by
  rw [hv,hv,xK F t u c n,hX,aI];grind
structure Wq (P:List Int)(B t u a b:Int):Prop where
 pos:0<b
 is:a*(B*u^P.length)=hv (fn P) t u P.length*b
theorem Wq.at {P:List Int}{B t u a b:Int}(h:Wq P B t u a b){N:Nat}(hN:P.length<=N):a*(B*u^N)=hv (fn P) t u N*b:=by
 obtain ⟨j,rfl⟩:∃ j,N=P.length+j:=⟨N-P.length,by omega⟩;rw [yv (fun k hk=>sT hk) j,cQ];have:=h.is
 calc a*(B*(u^P.length*u^j))=(a*(B*u^P.length))*u^j:=by grind
  _=hv (fn P) t u P.length*b*u^j:=by rw [this]
  _=_:=by grind
theorem Wq.of_at {P:List Int}{B t u a b:Int}(hu:0<u)(hb:0<b){N:Nat}(hN:P.length<=N)(h:a*(B*u^N)=hv (fn P) t u N*b):Wq P B t u a b:=by
 refine ⟨hb,?_⟩;obtain ⟨j,rfl⟩:∃ j,N=P.length+j:=⟨N-P.length,by omega⟩;rw [yv (fun k hk=>sT hk) j,cQ] at h;have U:=pow_pos hu j;refine aJ (show u^j≠0 by omega) ?_
 calc a*(B*u^P.length)*u^j=a*(B*(u^P.length*u^j)):=by grind
  _=hv (fn P) t u P.length*u^j*b:=h
  _=_:=by grind
theorem Wq.comp {P G R:List Int}{B U C t u a b x y:Int}(hB:0<B)(hU:0<U)(hu:0<u)(h1:Wq G U t u a b)(h2:Wq P B a b x y)(hR:∀ k,R.getD k 0*(B*U^P.length)=pc (fn P) (fn G) U P.length k*C)(hl:R.length<=P.length*G.length+1):Wq R C t u x y:=by
 refine Wq.of_at hu h2.pos hl ?_;have e0:hv (fn R) t u (P.length*G.length+1)*(B*U^P.length)=u*hv (fn P) (hv (fn G) t u G.length) (U*u^G.length) P.length*C:=by
  rw [← HZ (fun k hk=>sT hk),← vH,← vH];exact uS fun j _=>hR j
 have e1:=h1.is;have e2:=h2.is;have e3:hv (fn P) (hv (fn G) t u G.length) (U*u^G.length) P.length*b^P.length=hv (fn P) a b P.length*(U*u^G.length)^P.length:=by
  rw [← xK,← xK,← e1,bt b]
 have e4:(U*u^G.length)^P.length*u=U^P.length*u^(P.length*G.length+1):=by
  rw [hX,← Int.pow_mul,aI,bQ G.length];grind
 have b0:=pow_pos h1.pos P.length;have U0:=pow_pos hU P.length;generalize hv (fn R) t u (P.length*G.length+1)=r at *;generalize hv (fn P) (hv (fn G) t u G.length) (U*u^G.length) P.length=X2 at *;generalize hv (fn P) a b P.length=X1 at *;generalize (U*u^G.length)^P.length=W at *;generalize u^(P.length*G.length+1)=uN at *;generalize U^P.length=UL at *;generalize b^P.length=bL at *;have nz:B*UL*bL≠0:=aA (az (az hB U0) b0);refine aJ nz ?_
 calc x*(C*uN)*(B*UL*bL)=(x*(B*bL))*C*(UL*uN):=by grind
  _=(X1*y)*C*(W*u):=by rw [e2,e4]
  _=(X1*W)*y*C*u:=by grind
  _=(X2*bL)*y*C*u:=by rw [e3]
  _=(u*X2*C)*(bL*y):=by grind
  _=(r*(B*UL))*(bL*y):=by rw [e0]
  _=r*y*(B*UL*bL):=by grind
theorem AS {F:Nat->Int}{t:Int}(ht:0<t):∀ {n:Nat},(∀ k,k<n->(F k).natAbs<t.natAbs)->sm (fun k=>F k*t^k) n=0->∀ k,k<n->F k=0
 | 0,_,_,k,hk=>absurd hk (cO _)
 | n+1,hF,h,k,hk=>by
  rw [u5,aT,bh] at h;have e:sm (fun j=>F (j+1)*t^(j+1)) n=sm (fun j=>F (j+1)*t^j) n*t:=by
   rw [← uy];exact sW fun j _=>by rw [aI];grind
  rw [e] at h;have z:F 0=0:=by
   have d:t∣F 0:=⟨- sm (fun j=>F (j+1)*t^j) n,by grind⟩;have l:=hF 0 (by omega);exact Int.eq_zero_of_dvd_of_natAbs_lt_natAbs d l
  rw [z,cJ] at h;have h':sm (fun j=>F (j+1)*t^j) n=0:=by
   rcases cy.mp h with q | q
   ·exact q
   ·omega
  cases k with
  | zero=>exact z
  | succ k=>exact AS (F:=fun j=>F (j+1)) ht (fun j hj=>hF (j+1) (by omega)) h' k (by omega)
theorem HY (F:Nat->Int)(t:Int):∀ n,hv F t 1 n=sm (fun k=>F k*t^k) n
 | 0=>rfl
 | n+1=>by rw [hv,HY F t n,sm,bh]
theorem x6 {R S:List Int}{C D:Int}(f:Po.Fm R C)(f':Po.Fm S D)(h:∀ t:Int,0<t->∃ x y,Wq R C t 1 x y/\Wq S D t 1 x y):R=S/\C=D:=by
 refine Po.uniq f f' fun k=>?_;let N:=max R.length S.length
 let F:Nat->Int:=fun j=>fn R j*D-fn S j*C
 have bd:∃ t:Int,0<t/\∀ j,j<N->(F j).natAbs<t.natAbs:=by
  have:∀ n:Nat,∃ t:Int,0<t/\∀ j,j<n->(F j).natAbs<t.natAbs:=by
   intro n;induction n with
   | zero=>exact ⟨1,by decide,fun j h=>absurd h (cO _)⟩
   | succ n ih =>
    obtain ⟨t,t0,ht⟩:=ih;refine ⟨t+((F n).natAbs:Int)+1,by omega,fun j hj=>?_⟩;rcases cC (gh hj) with e | e
    ·rw [e];omega
    ·have:=ht j e;omega
  exact this N
 obtain ⟨t,t0,ht⟩:=bd;obtain ⟨x,y,w1,w2⟩:=h t t0;have e1:=w1.at (N:=N) (by omega);have e2:=w2.at (N:=N) (by omega);rw [cY,bh] at e1 e2;have z:sm (fun k=>F k*t^k) N=0:=by
  rw [← HY];have:hv F t 1 N=hv (fn R) t 1 N*D+hv (fn S) t 1 N*(-C):=by
   rw [← vH,← vH,← zq];exact uS fun j _=>by show fn R j*D-fn S j*C=_;grind
  rw [this];have y0:=w1.pos;refine aJ (show y≠0 by omega) ?_
  calc (hv (fn R) t 1 N*D+hv (fn S) t 1 N * -C)*y=(hv (fn R) t 1 N*y)*D-(hv (fn S) t 1 N*y)*C:=by grind
   _=(x*C)*D-(x*D)*C:=by rw [e1,e2]
   _=0*y:=by grind
 rcases ao k N with c | c
 ·have:=AS t0 ht z k c;have q:fn R k*D-fn S k*C=0:=this;show fn R k*D=fn S k*C;omega
 ·show fn R k*D=fn S k*C;rw [sT (P:=R) (by omega),sT (P:=S) (by omega)];simp
theorem Ik {g:Nat->Int}{m l:Nat}(hg:∀ k,l<=k->g k=0)(hs:∀ k,Lt2 m (g k)):∀ n,n*l<=400->∀ k,Lt2 ((m+9)*n+1) (cp g n k)
 | 0,_,k=>by
  show Lt2 _ (if k=0 then (1:Int) else 0);split
  ·unfold Lt2;exact aE (show (1:Int).natAbs<2^1 by decide) (bE (by decide) (by omega))
  ·exact bA (by decide)
 | n+1,h,k=>by
  rw [bo] at h;have ih:=Ik hg hs n (by omega);rcases ao k 500 with c | c
  ·exact (CP (b:=9) ih hs (by omega)).mono (by rw [bJ];omega)
  ·rw [wy hg (n+1) k (by rw [bo];omega)];exact bA (by decide)
theorem HH {F g:Nat->Int}{U:Int}{n m c l:Nat}(hg:∀ k,l<=k->g k=0)(hF:∀ k,Lt2 n (F k))(hs:∀ k,Lt2 m (g k))(hU:Lt2 c U):∀ i,i*l<=400->∀ k,Lt2 (n+(m+c+10)*i+1) (pc F g U i k)
 | 0,_,k=>bA (by decide)
 | i+1,h,k=>by
  rw [bo] at h;have ih:=HH hg hF hs hU i (by omega) k;have h2:Lt2 (n+(m+c+10)*i+1) (F i*cp g i k):=((hF i).mul (Ik hg hs i (by omega) k)).mono (by
   have:(m+9)*i<=(m+c+10)*i:=bI _ (by omega);omega)
  exact ((ih.add h2).mul hU).mono (by rw [bJ];omega)
def X:List Int:=[0,1]
theorem Mz (k:Nat):fn X k=if k=1 then 1 else 0:=by
 match k with
 | 0=>rfl
 | 1=>rfl
 | k+2 =>
  rw [sT (P:=X) (by show 2<=_;omega),if_neg (by omega)]
theorem FK:Po.Fm X 1:=⟨by decide,.inr (by decide),by decide⟩
theorem ME (f:Nat->Int)(k:Nat):cv f (fn X) k=if k=0 then 0 else f (k-1):=by
 rw [vZ,← vj (n:=2) (fun j hj=>sT hj)];show 0+(if 0<=k then fn X 0*f (k-0) else 0)+(if 1<=k then fn X 1*f (k-1) else 0)=_;have e0:fn X 0=0:=rfl;have e1:fn X 1=1:=rfl;rw [e0,e1];by_cases z:k=0
 ·subst z;simp
 ·rw [if_neg z,if_pos (show 1<=k by omega)];simp
theorem Lf:∀ (n k:Nat),cp (fn X) n k=if k=n then 1 else 0
 | 0,k=>rfl
 | n+1,k=>by
  show cv (cp (fn X) n) (fn X) k=_;rw [ME];by_cases z:k=0
  ·rw [if_pos z,if_neg (by omega)]
  ·rw [if_neg z,Lf n (k-1)];by_cases e:k=n+1
   ·rw [if_pos (by omega),if_pos e]
   ·rw [if_neg (by omega),if_neg e]
theorem KQ (F:Nat->Int):∀ (n k:Nat),pc F (fn X) 1 n k=if k<n then F k else 0
 | 0,k=>rfl
 | n+1,k=>by
  show (pc F (fn X) 1 n k+F n*cp (fn X) n k)*1=_;rw [KQ F n k,Lf,bh];by_cases e:k=n
  ·subst e;rw [if_neg (by omega),if_pos rfl,if_pos (by omega)];omega
  ·rw [if_neg e,bw,cq];by_cases c:k<n
   ·rw [if_pos c,if_pos (by omega)]
   ·rw [if_neg c,if_neg (by omega)]
def Of (P:List Int)(B:Int)(G:List Int)(U:Int)(R:List Int)(C:Int):Prop:=Po.Fm R C/\∀ k,R.getD k 0*(B*U^P.length)=pc (fn P) (fn G) U P.length k*C
theorem Of.uniq {P G R S:List Int}{B U C D:Int}(hB:0<B)(hU:0<U)(h:Of P B G U R C)(h':Of P B G U S D):R=S/\C=D:=by
 have:B*U^P.length≠0:=aA (az hB (pow_pos hU _));exact Po.same h.1 h'.1 this this h.2 h'.2 fun k=>rfl
theorem Of.len {P G R:List Int}{B U C:Int}(hB:0<B)(hU:0<U)(h:Of P B G U R C):R.length<=P.length*G.length+1:=by
 rcases h.1.last with e | e
 ·subst e;exact aC _
 ·rcases ao (P.length*G.length+1) R.length with c | c
  ·refine absurd ?_ e;have e3:=h.2 (R.length-1);rw [yX (m:=G.length) (fun k hk=>sT hk) _ _ (by omega),aL] at e3;rcases cy.mp e3 with q | q
   ·exact q
   ·have:=az hB (pow_pos hU P.length);omega
  ·exact c
theorem Of.right {P R:List Int}{B C:Int}(f:Po.Fm P B)(h:Of P B X 1 R C):R=P/\C=B:=by
 refine Po.uniq h.1 f fun k=>?_;have e:=h.2 k;rw [cY,bh,KQ] at e;rw [e];by_cases c:k<P.length
 ·rw [if_pos c];rfl
 ·rw [if_neg c];have:P.getD k 0=0:=sT (P:=P) (by omega);rw [this]
def It (P:List Int)(B:Int):Nat->List Int->Int->Prop
 | 0,R,C=>R=X/\C=1
 | k+1,R,C=>∃ R' C',It P B k R' C'/\Of P B R' C' R C
theorem It.fm {P:List Int}{B:Int}:∀ {k:Nat} {R:List Int} {C:Int},It P B k R C->Po.Fm R C
 | 0,R,C,h=>by obtain ⟨rfl,rfl⟩:=h;exact FK
 | k+1,R,C,h=>by obtain ⟨_,_,_,h⟩:=h;exact h.1
theorem It.uniq {P:List Int}{B:Int}(hB:0<B):∀ {k:Nat} {R R':List Int} {C C':Int},It P B k R C->It P B k R' C'->R=R'/\C=C'
 | 0,_,_,_,_,h,h'=>by obtain ⟨rfl,rfl⟩:=h;obtain ⟨rfl,rfl⟩:=h';exact ⟨rfl,rfl⟩
 | k+1,_,_,_,_,h,h'=>by
  obtain ⟨S,D,h1,h2⟩:=h;obtain ⟨S',D',h1',h2'⟩:=h';obtain ⟨rfl,rfl⟩:=It.uniq hB h1 h1';exact h2.uniq hB h1.fm.pos h2'
structure Pz (n b:Nat)(P:List Int)(B:Int):Prop where
 fm:Po.Fm P B
 tops:∀ k,Lt2 n (P.getD k 0)
 bot:Lt2 b B
theorem Pz.mono {n b n' b':Nat}{P:List Int}{B:Int}(h:Pz n b P B)(l:n<=n')(l':b<=b'):Pz n' b' P B:=⟨h.fm,fun k=>(h.tops k).mono l,h.bot.mono l'⟩
theorem Pz.of {n b:Nat}{P:List Int}{f:Nat->Int}{B c:Int}(F:Po.Fm P B)(hc:0<c)(h:∀ k,P.getD k 0*c=f k*B)(h1:∀ k,Lt2 n (f k))(h2:Lt2 b c):Pz n b P B :=
 ⟨F,fun k=>(h1 k).le ((Po.size F hc h).2 k),h2.le (Po.size F hc h).1⟩
theorem Of.size {P G R:List Int}{B U C:Int}{n b m c:Nat}(h:Of P B G U R C)(z1:Pz n b P B)(z2:Pz m c G U)(hl:P.length*G.length<=400):Pz (n+(m+c+10)*P.length+1) (b+(c*P.length+1)) R C:=by
 have Y:=az z1.fm.pos (pow_pos z2.fm.pos P.length);exact Pz.of h.1 Y h.2 (fun k=>HH (fun k hk=>sT hk) (fun k=>z1.tops k) (fun k=>z2.tops k) z2.bot P.length hl k) (z1.bot.mul (tx z2.bot P.length))
theorem zA {g:Nat->Int}{m:Nat}(hg:∀ k,m<=k->g k=0):∀ (n k:Nat),n*(m-1)+1<=k->cp g n k=0
 | 0,k,h=>by show (if k=0 then (1:Int) else 0)=0;rw [if_neg (by omega)]
 | n+1,k,h=>tX (a:=n*(m-1)+1) (b:=m) (zA hg n) hg (by rw [bo] at h;omega)
theorem xb {F g:Nat->Int}{U:Int}{m:Nat}(hg:∀ k,m<=k->g k=0):∀ (n k:Nat),(n-1)*(m-1)+1<=k->pc F g U n k=0
 | 0,_,_=>rfl
 | n+1,k,h=>by
  rw [bK] at h;have:(n-1)*(m-1)<=n*(m-1):=bI _ (by omega);show (pc F g U n k+F n*cp g n k)*U=0;rw [xb hg n k (by omega),zA hg n k (by omega)];simp
theorem Of.deg {P G R:List Int}{B U C:Int}(hB:0<B)(hU:0<U)(h:Of P B G U R C):R.length<=(P.length-1)*(G.length-1)+1:=by
 rcases h.1.last with e | e
 ·subst e;exact aC _
 ·rcases ao ((P.length-1)*(G.length-1)+1) R.length with c | c
  ·refine absurd ?_ e;have e3:=h.2 (R.length-1);rw [xb (m:=G.length) (fun k hk=>sT hk) _ _ (by omega),aL] at e3;rcases cy.mp e3 with q | q
   ·exact q
   ·have:=az hB (pow_pos hU P.length);omega
  ·exact c
theorem tQ {R:List Int}{C c:Int}{f:Nat->Int}{N:Nat}(F:Po.Fm R C)(hc:0<c)(h:∀ k,R.getD k 0*c=f k*C)(hf:∀ k,N<=k->f k=0):R.length<=N:=by
 rcases F.last with e | e
 ·subst e;exact aC _
 ·rcases ao N R.length with z | z
  ·refine absurd ?_ e;have e3:=h (R.length-1);rw [hf _ (by omega),aL] at e3;rcases cy.mp e3 with q | q
   ·exact q
   ·omega
  ·exact z
theorem Hk:Pz 1 1 X 1:=⟨FK,fun k=>by
 show Lt2 1 (fn X k);rw [Mz];split <;> (unfold Lt2;decide),by unfold Lt2;decide⟩
end Pc
namespace L2
instance decLt2 (n:Nat)(i:Int):Decidable (Lt2 n i):=inferInstanceAs (Decidable (i.natAbs<2^n))
end L2
namespace Pc
open L2 Cv Hv
theorem MF (g:Nat->Int)(k:Nat):cp g 1 k=g k:=xP g k
theorem Np (F g:Nat->Int)(U:Int)(k:Nat):pc F g U 2 k=(F 0*d0 k*U+F 1*g k)*U:=by
 show ((0+F 0*d0 k)*U+F 1*cp g 1 k)*U=_;rw [MF,cJ]
theorem Of.two {P G S:List Int}{B U D:Int}(h2:P.length=2)(hU:0<U)(h:Of P B G U S D)(k:Nat):S.getD k 0*(B*U)=(P.getD 0 0*d0 k*U+P.getD 1 0*G.getD k 0)*D:=by
 have q:=h.2 k;rw [h2,Np] at q;have q':S.getD k 0*(B*U^2)=(P.getD 0 0*d0 k*U+P.getD 1 0*G.getD k 0)*U*D:=q;refine aJ (show U≠0 by omega) ?_;rw [show (U:Int)^2=U*U by rw [aI,aI,aT,bV]] at q';grind
def St (ta ba tb bb:Int)(P:List Int)(B:Int):Prop:=Po.Fm P B/\∀ k,P.getD k 0*(ba*bb)=[tb*ba,ta*bb].getD k 0*B
theorem yL (x y:Int)(k:Nat):[x,y].getD (k+2) 0=0:=by simp
theorem IE {R G T:List Int}{M:Nat->Int}{B U W C tb:Int}{k:Nat}(c0:0<C)(hR:∀ j,R.getD j 0*(B*W)=M j*U*C)(hT:T.getD k 0*(C*U)=cv (fn R) (fn G) k*tb):T.getD k 0*(B*(W*U))=cv M (fn G) k*U*tb:=by
 have e1:cv (fn R) (fn G) k*(B*W)=cv M (fn G) k*(U*C):=by
  rw [← uW,← uW];exact tD (fun j=>by show R.getD j 0*(B*W)=_;rw [hR j];grind) fun _=>rfl
 refine aJ (show C≠0 by omega) ?_;generalize cv (fn R) (fn G) k=X at *;generalize cv M (fn G) k=Y at *;generalize T.getD k 0=Tk at *
 calc Tk*(B*(W*U))*C=(Tk*(C*U))*(B*W):=by grind
  _=(X*tb)*(B*W):=by rw [hT]
  _=(X*(B*W))*tb:=by grind
  _=(Y*(U*C))*tb:=by rw [e1]
  _=_:=by grind
theorem ID {S T E:Int}{B W U tb e sb q x:Int}(t0:0<tb)(e0:0<e)(hT:T*(B*(W*U))=q*U*tb)(hE:E*B=x*e)(hS:S*(tb*e)=(T*e+E*tb)*sb):S*(B*(W*U))=(q+x*W)*U*sb:=by
 refine aJ (show tb*e≠0 from aA (az t0 e0)) ?_
 calc S*(B*(W*U))*(tb*e)=(S*(tb*e))*(B*(W*U)):=by grind
  _=((T*e+E*tb)*sb)*(B*(W*U)):=by rw [hS]
  _=((T*(B*(W*U)))*e+(E*B)*(W*U)*tb)*sb:=by grind
  _=((q*U*tb)*e+(x*e)*(W*U)*tb)*sb:=by rw [hT,hE]
  _=_:=by grind
end Pc
namespace Qp
open L2 Cv Hv Pc
theorem sQ {b:Int}(h:0<b):(b:Rat)≠0:=fun z=>by
 have:=dD.mp z;omega
theorem tO {b:Int}(h:b≠0):(b:Rat)≠0:=fun z=>h (dD.mp z)
theorem uA {b:Rat}(h:b≠0):∀ n:Nat,b^n≠0
 | 0=>by rw [bC];decide
 | n+1=>fun z=>by
  rw [aY] at z;rcases cw.mp z with w | w
  ·exact uA h n w
  ·exact h w
theorem xa (a:Rat){b:Rat}(h:b≠0):∀ n:Nat,(a / b)^n*b^n=a^n
 | 0=>by rw [bC,bC,bC];grind
 | n+1=>by
  have ih:=xa a h n;rw [aY,aY,aY,← ih];grind
theorem tR {a b c d:Int}(hb:b≠0)(hd:d≠0):((a:Rat) / (b:Rat)=(c:Rat) / (d:Rat))↔a*d=c*b:=by
 have h1:=tO hb;have h2:=tO hd;constructor
 ·intro h;have:(a:Rat)*(d:Rat)=(c:Rat)*(b:Rat):=by grind
  rw [← aB,← aB] at this;exact de.mp this
 ·intro h;have:(a:Rat)*(d:Rat)=(c:Rat)*(b:Rat):=by rw [← aB,← aB,h]
  grind
theorem tZ (x:Rat):∃ t u:Int,0<u/\x=(t:Rat) / (u:Rat):=by
 refine ⟨x.num,(x.den:Int),?_,?_⟩
 ·have:=fI x.den_nz;omega
 ·have:=fE x;rw [fZ] at this;exact this.symm
def ei (F:Nat->Int)(x:Rat):Nat->Rat
 | 0=>0
 | n+1=>ei F x n+(F n:Rat)*x^n
theorem yC {F:Nat->Int}{x:Rat}{n:Nat}(h:∀ k,n<=k->F k=0):∀ j,ei F x (n+j)=ei F x n
 | 0=>rfl
 | j+1=>by
  rw [← eJ,ei,yC h j,h (n+j) (by omega)];grind
theorem zu {F G:Nat->Int}{a b:Int}{x:Rat}(h:∀ k,F k*a=G k*b):∀ n,ei F x n*(a:Rat)=ei G x n*(b:Rat)
 | 0=>by rw [ei,ei];grind
 | n+1=>by
  have ih:=zu (x:=x) h n;have e:(F n:Rat)*(a:Rat)=(G n:Rat)*(b:Rat):=by rw [← aB,← aB,h n]
  rw [ei,ei];grind
theorem BF (F G:Nat->Int)(x:Rat):∀ n,ei (fun k=>F k+G k) x n=ei F x n+ei G x n
 | 0=>by rw [ei,ei,ei];grind
 | n+1=>by
  rw [ei,ei,ei,BF F G x n,e6];grind
theorem uV (F:Nat->Int)(c:Int)(x:Rat):∀ n,ei (fun k=>F k*c) x n=ei F x n*(c:Rat)
 | 0=>by rw [ei,ei];grind
 | n+1=>by
  rw [ei,ei,uV F c x n,aB];grind
theorem AC (F:Nat->Int)(t:Int){u:Int}(hu:0<u):∀ n,((hv F t u n:Int):Rat)=(u:Rat)^n*ei F ((t:Rat) / (u:Rat)) n
 | 0=>by rw [hv,ei];grind
 | n+1=>by
  have hn:=sQ hu;have ih:=AC F t hu n;have p:=xa (t:Rat) hn n;rw [hv,ei,aB,e6,aB,dc,ih,aY,← p];grind
def E (P:List Int)(B:Int)(x:Rat):Rat:=ei (fn P) x P.length / (B:Rat)
theorem yb {P:List Int}{B:Int}{x:Rat}{N:Nat}(h:P.length<=N):E P B x=ei (fn P) x N / (B:Rat):=by
 obtain ⟨j,rfl⟩:∃ j,N=P.length+j:=⟨N-P.length,by omega⟩;rw [yC (fun k hk=>sT hk) j];rfl
theorem wq {P:List Int}{B t u a b:Int}(hB:0<B)(hu:0<u)(hb:0<b):Wq P B t u a b↔E P B ((t:Rat) / (u:Rat))=(a:Rat) / (b:Rat):=by
 have nB:=sQ hB;have nu:=sQ hu;have nb:=sQ hb;have nU:=uA nu P.length;have key:=AC (fn P) t hu P.length;constructor
 ·intro h;have e:=congrArg (fun z:Int=>(z:Rat)) h.is;simp only [aB,dc] at e;rw [key] at e;unfold E;generalize (u:Rat)^P.length=U at *;generalize ei (fn P) ((t:Rat) / (u:Rat)) P.length=X at *;have:(a:Rat)*(B:Rat)=X*(b:Rat):=by
   have:((a:Rat)*(B:Rat)-X*(b:Rat))*U=0:=by grind
   rcases cw.mp this with w | w
   ·grind
   ·exact absurd w nU
  grind
 ·intro h;refine ⟨hb,?_⟩;unfold E at h;have:((a*(B*u^P.length):Int):Rat)=((hv (fn P) t u P.length*b:Int):Rat):=by
   simp only [aB,dc];rw [key];generalize (u:Rat)^P.length=U at *;generalize ei (fn P) ((t:Rat) / (u:Rat)) P.length=X at *;have:X*(b:Rat)=(a:Rat)*(B:Rat):=by grind
   grind
  exact de.mp this
theorem AV {P G R:List Int}{B U C:Int}(hB:0<B)(hU:0<U)(h:Of P B G U R C)(x:Rat):E R C x=E P B (E G U x):=by
 obtain ⟨t,u,hu,rfl⟩:=tZ x;obtain ⟨a,b,hb,e1⟩:=tZ (E G U ((t:Rat) / (u:Rat)));obtain ⟨c,d,hd,e2⟩:=tZ (E P B ((a:Rat) / (b:Rat)));rw [e1,e2];exact (wq h.1.pos hu hd).mp (Wq.comp hB hU hu ((wq hU hu hb).mpr e1) ((wq hB hb hd).mpr e2) h.2 (h.len hB hU))
theorem tS {R S:List Int}{C D:Int}(f:Po.Fm R C)(f':Po.Fm S D)(h:∀ x,E R C x=E S D x):R=S/\C=D:=by
 refine x6 f f' fun t ht=>?_;obtain ⟨a,b,hb,e⟩:=tZ (E R C ((t:Rat) / ((1:Int):Rat)));exact ⟨a,b,(wq f.pos (by decide) hb).mpr e,(wq f'.pos (by decide) hb).mpr ((h _).symm.trans e)⟩
theorem wA {R:List Int}{C c:Int}{f:Nat->Int}{x:Rat}{N:Nat}(hC:0<C)(hc:c≠0)(h:∀ k,R.getD k 0*c=f k*C)(hN:R.length<=N):E R C x=ei f x N / (c:Rat):=by
 rw [yb hN];have e:=zu (F:=fn R) (G:=f) (x:=x) h N;have n1:=sQ hC;have n2:=tO hc;grind
theorem AU {P1 P2 R:List Int}{B1 B2 C:Int}(h1:0<B1)(h2:0<B2)(hC:0<C)(h:∀ k,R.getD k 0*(B1*B2)=(P1.getD k 0*B2+P2.getD k 0*B1)*C)(x:Rat):E R C x=E P1 B1 x+E P2 B2 x:=by
 have l1:P1.length<=P1.length+P2.length+R.length:=by omega
 have l2:P2.length<=P1.length+P2.length+R.length:=by omega
 have l3:R.length<=P1.length+P2.length+R.length:=by omega
 rw [wA hC (aA (az h1 h2)) h l3,yb l1,yb l2,BF,uV,uV,aB];have n1:=sQ h1;have n2:=sQ h2;show (ei (fn P1) x _*_+ei (fn P2) x _*_) / _=_;generalize ei (fn P1) x (P1.length+P2.length+R.length)=X;generalize ei (fn P2) x (P1.length+P2.length+R.length)=Y;grind
theorem Ie {f g:Nat->Int}{n m:Nat}(hf:∀ k,n<=k->f k=0)(hg:∀ k,m<=k->g k=0)(x:Rat):ei (cv f g) x (n+m)=ei f x n*ei g x m:=by
 obtain ⟨t,u,hu,rfl⟩:=tZ x;have e:=congrArg (fun z:Int=>(z:Rat)) (H0 (t:=t) (u:=u) hf hg);simp only [aB] at e;rw [AC _ _ hu,AC _ _ hu,AC _ _ hu] at e;have n1:=uA (sQ hu) n;have n2:=uA (sQ hu) m;have e3:(u:Rat)^(n+m)=(u:Rat)^n*(u:Rat)^m:=by grind
 rw [e3] at e;generalize (u:Rat)^n=a at *;generalize (u:Rat)^m=b at *;generalize ei (cv f g) ((t:Rat) / (u:Rat)) (n+m)=X at *;generalize ei f ((t:Rat) / (u:Rat)) n=Y at *;generalize ei g ((t:Rat) / (u:Rat)) m=Z at *;have:(X-Y*Z)*(a*b)=0:=by grind
 rcases cw.mp this with w | w
 ·grind
 ·rcases cw.mp w with v | v
  ·exact absurd v n1
  ·exact absurd v n2
theorem xk {P1 P2 R:List Int}{B1 B2 C:Int}(h1:0<B1)(h2:0<B2)(f:Po.Fm R C)(h:∀ k,R.getD k 0*(B1*B2)=cv (fn P1) (fn P2) k*C)(x:Rat):E R C x=E P1 B1 x*E P2 B2 x:=by
 have hC:=f.pos;have p12:=az h1 h2;have l:R.length<=P1.length+P2.length:=tQ f p12 h fun k hk=>tX (a:=P1.length) (b:=P2.length) (fun j h=>sT h) (fun j h=>sT h) (by omega);rw [wA hC (aA p12) h l,Ie (fun k h=>sT h) (fun k h=>sT h),aB];have n1:=sQ h1;have n2:=sQ h2;unfold E;grind
theorem MD (F:Nat->Int)(x:Rat):ei F x 1=(F 0:Rat):=by
 show 0+(F 0:Rat)*x^0=_;rw [bC];grind
theorem MZ (F:Nat->Int)(x:Rat):ei F x 2=(F 0:Rat)+(F 1:Rat)*x:=by
 show ei F x 1+(F 1:Rat)*x^1=_;rw [MD,Rat.pow_one]
theorem yI {P:List Int}{B:Int}(l:P.length<=2)(x:Rat):E P B x=((P.getD 0 0:Int):Rat) / (B:Rat)+((P.getD 1 0:Int):Rat) / (B:Rat)*x:=by
 rw [yb l,MZ];show (((P.getD 0 0:Int):Rat)+((P.getD 1 0:Int):Rat)*x) / _=_;grind
theorem xl {R:List Int}{C c b:Int}(f:Po.Fm R C)(hb:0<b)(h:∀ k,R.getD k 0*b=[c].getD k 0*C)(x:Rat):E R C x=(c:Rat) / (b:Rat):=by
 have l:R.length<=1:=tQ f hb h fun k hk=>by
  obtain ⟨j,rfl⟩:∃ j,k=j+1:=⟨k-1,by omega⟩;simp
 rw [wA f.pos (aA hb) h l,MD];rfl
theorem MQ {ta ba tb bb B:Int}{P:List Int}(h:St ta ba tb bb P B)(h1:0<ba)(h2:0<bb)(x:Rat):E P B x=(ta:Rat) / (ba:Rat)*x+(tb:Rat) / (bb:Rat):=by
 have p:=az h1 h2;have l:P.length<=2:=tQ h.1 p h.2 fun k hk=>by
  obtain ⟨j,rfl⟩:∃ j,k=j+2:=⟨k-2,by omega⟩;exact yL _ _ _
 rw [wA h.1.pos (aA p) h.2 l,MZ];show (((tb*ba:Int):Rat)+((ta*bb:Int):Rat)*x) / ((ba*bb:Int):Rat)=_;rw [aB,aB,aB];have n1:=sQ h1;have n2:=sQ h2;grind
theorem Hl (x:Rat):E X 1 x=x:=by
 rw [yI (by decide)];show ((0:Int):Rat) / ((1:Int):Rat)+((1:Int):Rat) / ((1:Int):Rat)*x=x;grind
def q (P:List Int)(B:Int)(k:Nat):Rat:=((P.getD k 0:Int):Rat) / (B:Rat)
theorem KK {R S:List Int}{C D:Int}(f:Po.Fm R C)(f':Po.Fm S D)(h:∀ k,q R C k=q S D k):R=S/\C=D :=
 Po.uniq f f' fun k=>(tR (aA f.pos) (aA f'.pos)).mp (h k)
theorem Ak {R:List Int}{C c:Int}{f:Nat->Int}(hC:0<C)(hc:c≠0)(h:∀ k,R.getD k 0*c=f k*C)(k:Nat):q R C k=((f k:Int):Rat) / (c:Rat):=(tR (aA hC) hc).mpr (h k)
theorem tU {P:List Int}{B:Int}{k:Nat}(h:P.length<=k):q P B k=0:=by
 unfold q;rw [ac,br h];show ((0:Int):Rat) / _=0;grind
theorem t9 {P:List Int}{B:Int}(f:Po.Fm P B)(h:P≠[]):q P B (P.length-1)≠0:=by
 rcases f.last with e | e
 ·exact absurd e h
 ·unfold q;have n1:=tO e;have n2:=sQ f.pos;intro z;generalize ((P.getD (P.length-1) 0:Int):Rat)=a at *;grind
theorem Ij {g:Nat->Int}(hg:∀ k,2<=k->g k=0):∀ n,cp g n n=g 1^n/\cp g (n+1) n=(n+1:Int)*g 1^n*g 0/\∀ k,n<k->cp g n k=0
 | 0=>by
  refine ⟨by rw [aT];rfl,?_,fun k hk=>by show (if k=0 then (1:Int) else 0)=0;rw [if_neg (by omega)]⟩;rw [MF];simp
 | n+1=>by
  obtain ⟨h1,h2,h3⟩:=Ij hg n;have hz:∀ (f:Nat->Int) (k:Nat),cv f g (k+1)=f (k+1)*g 0+f k*g 1:=fun f k=>by
   rw [vZ];have:tm g f 2 (k+1)=cv g f (k+1):=vj hg;rw [← this];show (0+(if 0<=k+1 then g 0*f (k+1-0) else 0))+(if 1<=k+1 then g 1*f (k+1-1) else 0)=_;rw [if_pos (by omega),if_pos (by omega),bZ,bK];grind
  have a1:cp g (n+1) (n+1)=g 1^(n+1):=by
   show cv (cp g n) g (n+1)=_;rw [hz,h3 (n+1) (by omega),h1,aI];grind
  refine ⟨a1,?_,fun k hk=>?_⟩
  ·show cv (cp g (n+1)) g (n+1)=_;rw [hz,a1,h2,aI];push_cast;grind
  ·obtain ⟨j,rfl⟩:∃ j,k=j+1:=⟨k-1,by omega⟩;show cv (cp g n) g (j+1)=0;rw [hz,h3 (j+1) (by omega),h3 j (by omega)];simp
theorem HG {F g:Nat->Int}{U:Int}(hg:∀ k,2<=k->g k=0)(n:Nat):pc F g U (n+1) n=F n*g 1^n*U/\(∀ k,n<k->pc F g U (n+1) k=0):=by
 have z:∀ n k,n<=k->pc F g U n k=0:=fun n k hk=>by
  cases n with
  | zero=>rfl
  | succ n=>exact xb (m:=2) hg (n+1) k (by omega)
 refine ⟨?_,fun k hk=>z _ _ hk⟩;show (pc F g U n n+F n*cp g n n)*U=_;rw [z n n (am _),(Ij hg n).1];grind
theorem KW {P G R:List Int}{B U C:Int}(f:Po.Fm P B)(fG:Po.Fm G U)(lG:G.length=2)(hP:P≠[])(g1:G.getD 1 0≠0)(h:Of P B G U R C) :
  R.length=P.length/\q R C (P.length-1)=q P B (P.length-1)*q G U 1^(P.length-1):=by
 have hB:=f.pos;have hU:=fG.pos;have hC:=h.1.pos;have hg:∀ k,2<=k->fn G k=0:=fun k hk=>sT (by omega);obtain ⟨n,hn⟩:∃ n,P.length=n+1:=⟨P.length-1,by cases P;exact absurd rfl hP;simp⟩;have hW:=az hB (pow_pos hU (n+1));have h2:=h.2;rw [hn] at h2;have e:=Ak hC (aA hW) h2 n;rw [(HG hg n).1,aB,aB,aB,dc,dc] at e;have nB:=sQ hB;have nU:=sQ hU;have nUn:=uA nU n;have e2:q R C n=q P B n*q G U 1^n:=by
  rw [e];show ((P.getD n 0:Int):Rat)*((G.getD 1 0:Int):Rat)^n*(U:Rat) / ((B:Rat)*(U:Rat)^(n+1))=((P.getD n 0:Int):Rat) / (B:Rat)*(((G.getD 1 0:Int):Rat) / (U:Rat))^n;have p:=xa ((G.getD 1 0:Int):Rat) nU n;rw [← p,aY];generalize (((G.getD 1 0:Int):Rat) / (U:Rat))^n=Z;generalize (U:Rat)^n=W at *;grind
 have l1:R.length<=n+1:=tQ h.1 hW h2 fun k hk=>(HG hg n).2 k (by omega);rw [hn,bK];refine ⟨?_,e2⟩;rcases ao R.length (n+1) with z | z
 ·have z1:=tU (B:=C) (show R.length<=n by omega);rw [z1] at e2;have z2:=t9 f hP;rw [hn,bK] at z2;have z3:q G U 1≠0:=by
   unfold q;have n1:=tO g1;generalize ((G.getD 1 0:Int):Rat)=a at *;intro z;grind
  have z4:=uA z3 n;rcases cw.mp e2.symm with w | w
  ·exact absurd w z2
  ·exact absurd w z4
 ·omega
end Qp
namespace L2
open PySem Qp
variable {K:Frag}{H H':Hp}{v:V}{r:Rat}{n b n' b':Nat}
theorem Fq.ne {p:Addr}{t u:Int}(hu:0<u)(e:r=(t:Rat) / (u:Rat)):r≠0↔t≠0:=by
 have n1:=sQ hu;subst e;constructor
 ·intro h z;subst z;refine h ?_;have:((0:Int):Rat)=0:=rfl;rw [this];grind
 ·intro h z;have h':=tO h;generalize (t:Rat)=a at *;grind
end L2
namespace Qp
open L2 Cv Hv Pc
theorem vE {P:List Int}{B:Int}:E P B 0=q P B 0:=by
 unfold E q;have:∀ n,0<n->ei (fn P) 0 n=((P.getD 0 0:Int):Rat):=by
  intro n hn;induction n with
  | zero=>omega
  | succ n ih =>
   rw [ei];cases n with
   | zero =>
    rw [ei,bC];show 0+((P.getD 0 0:Int):Rat)*1=_;grind
   | succ n =>
    rw [ih (by omega),aY];grind
 cases hP:P.length with
 | zero =>
  have:P=[]:=cU.mp hP;subst this;show 0 / _=((0:Int):Rat) / _;rfl
 | succ n=>rw [this (n+1) (by omega)]
theorem KJ {P1 P2 R:List Int}{B1 B2 C:Int}(h1:0<B1)(h2:0<B2)(hC:0<C)(h:∀ k,R.getD k 0*(B1*B2)=(P1.getD k 0*B2+P2.getD k 0*B1)*C)(k:Nat):q R C k=q P1 B1 k+q P2 B2 k:=by
 have e:=Ak (f:=fun k=>P1.getD k 0*B2+P2.getD k 0*B1) hC (aA (az h1 h2)) h k;rw [e];have n1:=sQ h1;have n2:=sQ h2;unfold q;simp only [aB,e6];grind
end Qp
namespace L2
open PySem PySem.Spec PyProof.Rows
section
variable {X:Cx}{e:Expr}{te:TE}{lo hi:Option Expr}{se:Expr}{tl th ts:TO}{pos p2:Pos}
def Lr (X:Cx)(r:V->Option Int->Option Int->Option Int->Hp->VK->Prop):Prop :=
 ∀ (pins:List (Addr×Obj)) (s:Shared) (σ:St) (H:Hp) (x:V) (v vl vu vs:Value) (lo hi st:Option Int) (sl:Addr) (Q:VK),Inv X pins σ H s->RelV x v->s.heap.IsSliceOf sl vl vu vs->IsPart vl lo->IsPart vu hi->IsPart vs st->r x lo hi st H Q ->
  ∃ T id,typeLookup (.type T) "__getitem__" = pure (some (.builtin id))/\s.TypeIs v T/\wpAny (model X.prog X.w) X.A (getItem v (.ref sl)) (EP X pins σ Q) X.xe s
def L1 (r:V->Option Int->Option Int->Option Int->Hp->VK->Prop)(te:TE)(tl th ts:TO):TE:=fun σ H Q=>te σ H fun x H1=>tl σ H1 fun l H2=>th σ H2 fun u H3=>ts σ H3 fun k H4=>r x l u k H4 Q
theorem Dc {r:V->Option Int->Option Int->Option Int->Hp->VK->Prop}(hr:Lr X r)(he:PE X e te)(hl:PO X lo tl)(hu:PO X hi th)(hs:PO X (some se) ts):PE X (.Subscript e (.Slice lo hi (some se) p2) pos) (L1 r te tl th ts):=by
 intro pins s σ H Q I h;refine Subscript_ (tv (he pins s σ H _ I h) fun v s1 ⟨x,H1,I1,r1,q1⟩=>?_);refine wpAny_Slice (tv (hl pins s1 σ H1 _ I1 q1) fun vl s2 ⟨l,H2,I2,pl,q2⟩=>tv (hu pins s2 σ H2 _ I2 q2) fun vu s3 ⟨u,H3,I3,pu,q3⟩=>tv (hs pins s3 σ H3 _ I3 q3) fun vs s4 ⟨k,H4,I4,pk,q4⟩=>?_);have I5:Inv X pins σ H4 { s4 with heap:=s4.heap.push { cls:=.type "slice",data:=.fields #[vl,vu,vs] } }:=I4.kept (t':=s4.toks) fun b ob q=>Heap.get?_push_of_some _ q;obtain ⟨T,id,hT,ht,hg⟩:=hr pins { s4 with heap:=s4.heap.push { cls:=.type "slice",data:=.fields #[vl,vu,vs] } } σ H4 x v vl vu vs l u k s4.heap.objs.size Q I5 r1 (Heap.IsSliceOf.new ..) pl pu pk q4;show wpAny (model X.prog X.w) X.A (subscriptTail e (.Slice lo hi (some se) p2) v (.ref s4.heap.objs.size)) (EP X pins σ Q) X.xe { s4 with heap:=s4.heap.push { cls:=.type "slice",data:=.fields #[vl,vu,vs] } };exact tail_any (ops:=[v,.ref s4.heap.objs.size]) ht hT hg (by with_unfolding_all rfl)
theorem Mh (K:Frag)(hK:X.K=K:=by rfl):Lr X (fun x lo hi st H Q=>lo=none/\hi=none/\st=some (-1)/\∃ a xs,x = .ref a/\SqL K H a xs/\∀ p,H p=none->Q (.ref p) (tN H p (.lst xs.reverse))):=by
 subst hK;intro pins s σ H x v vl vu vs lo hi st sl Q I rx hs pl pu pk h;obtain ⟨rfl,rfl,rfl,a,xs,rfl,hx,q⟩:=h;cases rx;obtain ⟨its,r,ht,hz⟩:=I.list hx;have hlen:=r.length;refine ⟨"list",_,slot_list_getitem.lookup,ht.isList.typeIs,?_⟩;refine wpAny_getItem_list_slice ht.isList hs pl pu pk (by decide) ?_ (by rw [ai] <;> omega);rw [PySem.W.krv_pick];refine ⟨.ref s.heap.objs.size,_,I.laid (t':=s.toks) (o:=.lst xs.reverse) (fun b ob q=>Heap.get?_push_of_some _ q) (am _) ?_,rfl,q _ (I.hok.fresh (am _))⟩;exact ⟨by rw [bO];exact hz,its.reverse,0,r.reverse,Heap.get?_push_size _ rfl⟩
end
def Lu (K:Frag)(H:Hp)(v:V)(P:List Int)(B:Int):Prop:=∃ a t,v = .ref a/\SqT K H a [.ref t,.int B]/\SqT K H t (P.map V.int)
theorem Pol.k {K:Frag}{H:Hp}{v:V}{P:List Int}{B:Int}(h:Pol H v P B):Lu K H v P B:=by
 obtain ⟨a,t,e,h1,h2⟩:=h;exact ⟨a,t,e,SqT.of h1,SqT.of h2⟩
instance coePolK {K:Frag}{H:Hp}{v:V}{P:List Int}{B:Int}:Coe (Pol H v P B) (Lu K H v P B):=⟨Pol.k⟩
end L2
namespace L2
open PySem PySem.Spec PyProof.Rows
theorem GF {X:Cx}:LU X "int.bit_length" (fun x vs H Q=>∃ i,x = .int i/\vs=[]/\Q (.int ((Builtin.Int.intBits i:Nat):Int)) H):=by
 intro pins s σ H x vs v us Q I rx rv h;obtain ⟨i,rfl,rfl,q⟩:=h;obtain ⟨t,rfl⟩:=rx;have hus:=rv.zero;subst hus;exact call_int_bit_length ⟨.int _,H,I.tok _,⟨_,rfl⟩,q⟩
end L2
namespace Rt
structure Is (n:Int)(k:Nat)(r:Int):Prop where
 pos:0<=r
 le:r^k<=n
 most:∀ s:Int,0<=s->s^k<=n->s<=r
theorem Is.uniq {n:Int}{k:Nat}{r r':Int}(h:Is n k r)(h':Is n k r'):r=r':=by
 have h1:=h.most r' h'.pos h'.le;have h2:=h'.most r h.pos h.le;omega
theorem wg {t:Int}(h:0<=t):∀ k:Nat,0<=t^k
 | 0=>by rw [aT];decide
 | k+1=>by rw [aI];exact dG (wg h k) h
theorem pow_pos {t:Int}(h:0<t):∀ k:Nat,0<t^k
 | 0=>by rw [aT];decide
 | k+1=>by rw [aI];exact az (pow_pos h k) h
theorem vV {s t:Int}(h0:0<=s)(h:s<=t):∀ k:Nat,s^k<=t^k
 | 0=>by rw [aT,aT];exact dE _
 | k+1=>by
  rw [aI,aI];exact Int.mul_le_mul (vV h0 h k) h h0 (wg (by omega) k)
theorem tx {s t:Int}(h0:0<=s)(h:s<t){k:Nat}(hk:1<=k):s^k<t^k:=by
 obtain ⟨j,rfl⟩:∃ j,k=j+1:=⟨k-1,by omega⟩;rw [aI,aI];have h1:=vV h0 (by omega:s<=t) j;have h2:=pow_pos (by omega:0<t) j;have h3:=wg h0 j
 calc s^j*s<=t^j*s:=gx h1 h0
  _<t^j*t:=Int.mul_lt_mul_of_pos_left h h2
theorem Is.of {n r:Int}{k:Nat}(hk:1<=k)(h0:0<=r)(h1:r^k<=n)(h2:n<(r+1)^k):Is n k r:=by
 refine ⟨h0,h1,fun s hs h=>?_⟩;rcases gq r s with c | c
 ·have:=vV (by omega:0<=r+1) (by omega:r+1<=s) k;omega
 ·exact c
theorem Ln {s t:Int}(hs:0<=s)(ht:0<=t):∀ k:Nat,((k:Int)+1)*s*t^k<=(k:Int)*t^(k+1)+s^(k+1)
 | 0=>by simp [aI]
 | k+1=>by
  have ih:=Ln hs ht k;have h2:0<=t^k*((t-s)*(t-s)):=dG (wg ht k) (by
   rcases Int.le_total t s with c | c
   ·exact Int.mul_nonneg_of_nonpos_of_nonpos (by omega) (by omega)
   ·exact dG (by omega) (by omega))
  have h3:0<=((k:Int)+1)*(t^k*((t-s)*(t-s))):=dG (by omega) h2;have h4:=Int.mul_le_mul_of_nonneg_left ih hs;rw [aI t (k+1),aI s (k+1)];rw [aI t k] at *;generalize t^k=T at *;generalize s^(k+1)=S at *;push_cast;grind
theorem Jy {n t s:Int}{k:Nat}(hk:1<=k)(ht:0<t)(hs:0<=s)(h:s^k<=n):s<=(((k:Int)-1)*t+n / t^(k-1)) / (k:Int):=by
 obtain ⟨j,rfl⟩:∃ j,k=j+1:=⟨k-1,by omega⟩;rw [bK];have T:=pow_pos ht j;refine (dH (by omega)).mpr ?_;have a:=Ln hs (by omega:0<=t) j;have:(((j+1:Nat):Int)*s-(j:Int)*t)<=n / t^j:=by
  refine (dH T).mpr ?_;rw [aI t j] at a;generalize t^j=U at *;push_cast;grind
 have e:((j+1:Nat):Int)=(j:Int)+1:=by omega
 rw [e] at this ⊢;have e2:(j:Int)+1-1=(j:Int):=by omega
 rw [e2];have e3:s*((j:Int)+1)=((j:Int)+1)*s:=bt _ _;omega
theorem stop {n t:Int}{k:Nat}(hk:1<=k)(ht:0<t)(hu:∀ s:Int,0<=s->s^k<=n->s<=t)(h:t<=(((k:Int)-1)*t+n / t^(k-1)) / (k:Int)):Is n k t:=by
 obtain ⟨j,rfl⟩:∃ j,k=j+1:=⟨k-1,by omega⟩;rw [bK] at h;have T:=pow_pos ht j;refine ⟨by omega,?_,hu⟩;have h1:=(dH (by omega)).mp h;have e:((j+1:Nat):Int)=(j:Int)+1:=by omega
 rw [e] at h1;have e2:(j:Int)+1-1=(j:Int):=by omega
 rw [e2] at h1;have e3:t*((j:Int)+1)=(j:Int)*t+t:=by grind
 have h2:t<=n / t^j:=by omega
 have h3:=(dH T).mp h2;rw [aI,bt];exact h3
end Rt
namespace Rt
open L2
def RtV (t b:Int)(k:Nat)(fs:List (Int×Int)):Prop:=∃ o u:Int,Is ((t.natAbs:Nat):Int) k o/\Is b k u /\
 fs=if (t<0/\k%2=0)\/o^k≠((t.natAbs:Nat):Int)\/u^k≠b then [] else if t<0 then [(-o,u)] else if k%2=0/\0<o then [(-o,u),(o,u)] else [(o,u)]
theorem RtV.len {t b:Int}{k:Nat}{fs:List (Int×Int)}(h:RtV t b k fs):fs.length<=2:=by
 obtain ⟨o,u,h1,h2,rfl⟩:=h;split
 ·simp
 ·split
  ·simp
  ·split <;> simp
theorem xg (o:Int):∀ k:Nat,(-o)^k=if k%2=0 then o^k else -(o^k)
 | 0=>by simp
 | k+1=>by
  rw [aI,aI,xg o k];by_cases c:k%2=0
  ·rw [if_pos c,if_neg (by omega)];grind
  ·rw [if_neg c,if_pos (by omega)];grind
theorem RtV.root {t b:Int}{k:Nat}{fs:List (Int×Int)}(h:RtV t b k fs):∀ f∈fs,f.1^k=t/\f.2^k=b/\f.1.natAbs^k=t.natAbs:=by
 obtain ⟨o,u,h1,h2,rfl⟩:=h;intro f hf;split at hf
 ·exact absurd hf aP
 ·rename_i c;have c1:¬ (t<0/\k%2=0):=fun z=>c (.inl z);have c2:o^k=((t.natAbs:Nat):Int):=Decidable.byContradiction fun z=>c (.inr (.inl z));have c3:u^k=b:=Decidable.byContradiction fun z=>c (.inr (.inr z));have o0:=h1.pos;have oN:o.natAbs^k=t.natAbs:=by
   have e:((o.natAbs^k:Nat):Int)=((t.natAbs:Nat):Int):=by
    rw [cP,← c2];congr 1;omega
   exact Int.ofNat_inj.mp e
  split at hf
  ·rename_i d;rw [av.mp hf];refine ⟨?_,c3,by rw [dQ];exact oN⟩;show (-o)^k=t;rw [xg,if_neg (fun z=>c1 ⟨d,z⟩),c2];omega
  ·rename_i d;split at hf
   ·rename_i e;rcases au.mp hf with rfl | hf
    ·refine ⟨?_,c3,by rw [dQ];exact oN⟩;show (-o)^k=t;rw [xg,if_pos e.1,c2];omega
    ·rw [av.mp hf];exact ⟨by show o^k=t;rw [c2];omega,c3,oN⟩
   ·rw [av.mp hf];exact ⟨by show o^k=t;rw [c2];omega,c3,oN⟩
theorem Is.zero {k:Nat}(hk:1<=k):Is 0 k 0:=by
 refine ⟨dE _,?_,fun s hs h=>?_⟩
 ·obtain ⟨j,rfl⟩:∃ j,k=j+1:=⟨k-1,by omega⟩;rw [aI,bw];exact dE _
 ·rcases gq 0 s with c | c
  ·have:=pow_pos c k;omega
  ·exact c
theorem Is.one {k:Nat}(hk:1<=k):Is 1 k 1:=by
 refine Is.of hk (by decide) (by rw [cY];exact dE _) ?_;have:=tx (s:=1) (t:=2) (by decide) (by decide) hk;rw [cY] at this;exact this
theorem start {n:Int}{k b:Nat}(hk:1<=k)(hn:n.natAbs<2^b){s:Int}(hs:0<=s)(h:s^k<=n):s<=1*2^(b / k+1):=by
 rw [bV];rcases gq ((2:Int)^(b / k+1)) s with c | c
 ·have h1:=vV (wg (by decide:(0:Int)<=2) (b / k+1)) (gV c) k;rw [← Int.pow_mul] at h1;have h2:b<=(b / k+1)*k:=by
   have:=Nat.div_add_mod b k;have m:=Nat.mod_lt b (by omega:0<k);rw [gz,fh,bQ (b / k)];omega
  have h3:(2:Nat)^b<=2^((b / k+1)*k):=bE (by decide) h2;have h4:(2:Int)^((b / k+1)*k)=((2^((b / k+1)*k):Nat):Int):=by rw [cP];rfl
  omega
 ·exact c
end Rt
namespace Rt
theorem ex {k:Nat}(hk:1<=k):∀ m:Nat,∃ r:Int,0<=r/\r^k<=(m:Int)/\(m:Int)<(r+1)^k
 | 0=>⟨0,dE _,(Is.zero hk).le,by rw [cJ,cY];decide⟩
 | m+1=>by
  obtain ⟨r,h0,h1,h2⟩:=ex hk m;by_cases c:(r+1)^k<=((m+1:Nat):Int)
  ·refine ⟨r+1,by omega,c,?_⟩;have:=tx (by omega:0<=r+1) (by omega:r+1<r+1+1) hk;omega
  ·exact ⟨r,h0,by omega,by omega⟩
theorem has {n:Int}{k:Nat}(hk:1<=k)(hn:0<=n):∃ r,Is n k r:=by
 obtain ⟨m,rfl⟩:=dF hn;obtain ⟨r,h0,h1,h2⟩:=ex hk m;exact ⟨r,Is.of hk h0 h1 h2⟩
theorem Is.self {n r:Int}{k:Nat}(hk:1<=k)(hn:0<=n)(h:Is n k r):r<=n:=by
 rcases gq r 1 with c | c
 ·have:=h.pos;omega
 ·have h1:=h.le;obtain ⟨j,rfl⟩:∃ j,k=j+1:=⟨k-1,by omega⟩;rw [aI] at h1;have:=pow_pos (by omega:0<r) j;have h2:=gx (show (1:Int)<=r^j by omega) (show 0<=r by omega);omega
end Rt
namespace Ca
open Cv
theorem vA (F G:Nat->Int)(n:Nat):sm (fun j=>F j+G j) n=sm F n+sm G n:=by
 induction n with
 | zero=>rfl
 | succ n ih=>rw [sm,sm,sm,ih];omega
theorem IG {F:Nat->Int}{d:Int}{n:Nat}(h:∀ j,j<n->d∣F j):d∣sm F n:=by
 induction n with
 | zero=>exact gZ d
 | succ n ih=>exact fi (ih fun j hj=>h j (by omega)) (h n (by omega))
theorem AI {f g f' g':Nat->Int}{k:Nat}(h:∀ j,j<=k->f j=f' j)(h':∀ j,j<=k->g j=g' j):cv f g k=cv f' g' k :=
 sW fun j hj=>by rw [h j (by omega),h' (k-j) (by omega)]
theorem CQ (f f' g:Nat->Int)(k:Nat):cv (fun j=>f j+f' j) g k=cv f g k+cv f' g k:=by
 unfold cv;rw [← vA];exact sW fun j _=>fj _ _ _
theorem Fi (f g:Nat->Int)(c:Int)(k:Nat):cv (fun j=>c*f j) g k=c*cv f g k:=by
 rw [bt,← uW];exact tD (fun j=>bt _ _) fun _=>rfl
theorem AJ (f g:Nat->Int)(k:Nat):cv f g (k+1)=f 0*g (k+1)+cv (fun j=>f (j+1)) g k:=by
 unfold cv;rw [u5];congr 1;exact sW fun j _=>by rw [show k+1-(j+1)=k-j by omega]
theorem BN (f g:Nat->Int):cv f g 0=f 0*g 0:=by simp [cv,sm]
theorem v3 (f g h:Nat->Int)(k:Nat):cv (cv f g) h k=cv f (cv g h) k:=by
 induction k generalizing f g h with
 | zero=>rw [BN,BN,BN,BN,bY]
 | succ k ih =>
  rw [AJ (cv f g) h,AJ f (cv g h),BN];have e:cv (fun j=>cv f g (j+1)) h k=cv (fun j=>f 0*g (j+1)+cv (fun j=>f (j+1)) g j) h k:=tD (fun j=>AJ f g j) fun _=>rfl;rw [e,CQ,Fi,ih,AJ g h];grind
theorem BM (f g:Nat->Int)(k:Nat):cv f g (k+1)=f 0*g (k+1)+sm (fun j=>f (j+1)*g (k-j)) k+f (k+1)*g 0:=by
 rw [AJ];unfold cv;rw [sm,cD];exact (Int.add_assoc _ _ _).symm
def pw (g:Nat->Int):Nat->Nat->Int
 | 0=>fun j=>if j=0 then 1 else 0
 | m+1=>cv (pw g m) g
theorem Ek {g:Nat->Int}(h:g 0=1):∀ m,pw g m 0=1
 | 0=>rfl
 | m+1=>by show cv _ _ 0=1;rw [BN,Ek h m,h];rfl
theorem Bc {g:Nat->Int}{k:Int}(h:g 0=1)(hg:∀ i,k∣g (i+1)):∀ m i,(k*k∣pw g m (i+1)-m*g (i+1))/\k∣pw g m (i+1)
 | 0,i=>⟨by simp [pw],by simp [pw]⟩
 | m+1,i=>by
  obtain ⟨a,b⟩:=Bc h hg m i;have e:pw g (m+1) (i+1)=cv (pw g m) g (i+1):=rfl;rw [BM,Ek h,h] at e;have d:k*k∣sm (fun j=>pw g m (j+1)*g (i-j)) i:=IG fun j hj=>by
   rw [show i-j=(i-j-1)+1 by omega];exact gD (Bc h hg m j).2 (hg _)
  have q:k*k∣pw g (m+1) (i+1)-(m+1:Nat)*g (i+1):=by
   rw [show pw g (m+1) (i+1)-((m+1:Nat):Int)*g (i+1)=sm (fun j=>pw g m (j+1)*g (i-j)) i+(pw g m (i+1)-m*g (i+1)) by rw [e];grind];exact fi d a
  refine ⟨q,?_⟩;have q2:k∣pw g (m+1) (i+1)-(m+1:Nat)*g (i+1):=eK (dI k k) q;have q3:k∣((m+1:Nat):Int)*g (i+1):=gO (hg i);have:=fi q2 q3;rwa [iz] at this
theorem Bb {g g':Nat->Int}{s:Nat}(h:g 0=1)(hh:∀ i,i<=s->g' i=g i):∀ m,(∀ i,i<=s->pw g' m i=pw g m i)/\pw g' m (s+1)=pw g m (s+1)+m*(g' (s+1)-g (s+1))
 | 0=>⟨fun _ _=>rfl,by simp [pw]⟩
 | m+1=>by
  obtain ⟨a,b⟩:=Bb h hh m;have h':g' 0=1:=by rw [hh 0 (aC _),h]
  refine ⟨fun i hi=>AI (fun j hj=>a j (by omega)) fun j hj=>hh j (by omega),?_⟩;show cv (pw g' m) g' (s+1)=cv (pw g m) g (s+1)+_;rw [BM,BM,Ek h',Ek h,h,h',b];have:sm (fun j=>pw g' m (j+1)*g' (s-j)) s=sm (fun j=>pw g m (j+1)*g (s-j)) s:=sW fun j hj=>by rw [a (j+1) (by omega),hh (s-j) (by omega)]
  rw [this];grind
theorem root {a:Nat->Int}{k:Nat}(hk:0<k)(h0:a 0=1)(ha:∀ i,(k*k:Int)∣a (i+1)):∀ s:Nat,∃ g:Nat->Int,g 0=1/\(∀ i,(k:Int)∣g (i+1))/\∀ j,j<=s->pw g k j=a j
 | 0=>⟨fun i=>if i=0 then 1 else 0,rfl,fun i=>by simp,fun j hj=>by
   rw [show j=0 by omega,h0];exact Ek (by rfl) k⟩
 | s+1=>by
  obtain ⟨g,g0,gd,ge⟩:=root hk h0 ha s;have m1:=(Bc g0 gd k s).1;have m2:(k*k:Int)∣pw g k (s+1):=by
   have:(k*k:Int)∣k*g (s+1):=gD (gr _) (gd s);have:=fi m1 this;rwa [iz] at this
  obtain ⟨t,ht⟩:=Int.dvd_sub (ha s) m2;have hh:∀ i,i<=s->(if i=s+1 then g i+k*t else g i)=g i:=fun i hi=>if_neg (by omega);have P:=Bb (g':=fun i=>if i=s+1 then g i+k*t else g i) g0 hh k;refine ⟨fun i=>if i=s+1 then g i+k*t else g i,?_,fun i=>?_,fun j hj=>?_⟩
  ·exact (hh 0 (aC _)).trans g0
  ·show (k:Int)∣if i+1=s+1 then _ else _;split
   ·exact fi (gd i) (dI _ _)
   ·exact gd i
  ·rcases ao s j with c | c
   ·rw [show j=s+1 by omega,P.2];simp only [if_true];grind
   ·rw [P.1 j c,ge j c]
def th (f:Nat->Int):Nat->Int:=fun j=>j*f j
theorem Kf (f g:Nat->Int)(k:Nat):th (cv f g) k=cv (th f) g k+cv f (th g) k:=by
 unfold th cv;rw [← vA,bt,← uy];refine sW fun j hj=>?_;have:((k-j:Nat):Int)=k-j:=by omega
 show f j*g (k-j)*k=j*f j*g (k-j)+f j*(((k-j:Nat):Int)*g (k-j));rw [this];grind
theorem Hq (g:Nat->Int):∀ m j,cv (th (pw g m)) g j=m*cv (pw g m) (th g) j
 | 0,j=>by
  rw [Int.natCast_zero,aL];refine wU fun i=>?_;show (i:Int)*(if i=0 then 1 else 0)=0;split
  ·rw [‹i=0›];rfl
  ·exact bw _
 | m+1,j=>by
  have e:cv (th (pw g (m+1))) g j=cv (fun i=>cv (th (pw g m)) g i+cv (pw g m) (th g) i) g j:=tD (fun i=>Kf _ _ i) fun _=>rfl;have e1:cv (cv (th (pw g m)) g) g j=cv (fun i=>m*cv (pw g m) (th g) i) g j:=tD (fun i=>Hq g m i) fun _=>rfl;have e2:cv (cv (pw g m) (th g)) g j=cv (pw g (m+1)) (th g) j:=by
   rw [v3];show _=cv (cv (pw g m) g) (th g) j;rw [v3];exact tD (fun _=>rfl) fun i=>vZ _ _ i
  rw [e,CQ];have e3:cv (fun i=>cv (th (pw g m)) g i) g j=m*cv (pw g (m+1)) (th g) j:=by
   refine Eq.trans (show _=cv (cv (th (pw g m)) g) g j from rfl) ?_;rw [e1,Fi,← e2]
  have e4:cv (fun i=>cv (pw g m) (th g) i) g j=cv (pw g (m+1)) (th g) j:=e2;rw [e3,e4];grind
theorem step {a g:Nat->Int}{k s j:Nat}(g0:g 0=1)(h0:a 0=1)(h:∀ j,j<=s->pw g k j=a j)(hj:j<=s) :
  sm (fun i=>(((i+1:Nat):Int)*(k+1)-j*k)*a (i+1)*g (j-(i+1))) j=j*k*g j:=by
 have e:=Hq g k j;have e1:cv (th (pw g k)) g j=cv (th a) g j:=AI (fun i hi=>by unfold th;rw [h i (by omega)]) fun _ _=>rfl;have e2:cv (pw g k) (th g) j=cv a (th g) j:=AI (fun i hi=>h i (by omega)) fun _ _=>rfl;rw [e1,e2] at e;unfold cv at e;rw [u5,u5] at e;have z:th a 0=0:=by simp [th]
 have z2:th g (j-0)=j*g j:=rfl;rw [z,z2,h0,aL,cJ,bV,Int.mul_add] at e;have q:sm (fun i=>(((i+1:Nat):Int)*(k+1)-j*k)*a (i+1)*g (j-(i+1))) j=sm (fun i=>th a (i+1)*g (j-(i+1))+a (i+1)*th g (j-(i+1))*(-k)) j:=sW fun i hi=>by
  unfold th;have:((j-(i+1):Nat):Int)=j-(i+1:Nat):=by omega
  rw [this];grind
 rw [q,vA,uy (fun i=>a (i+1)*th g (j-(i+1)))];grind
end Ca
namespace Ca
open Cv L2
theorem F4 {a g:Nat->Int}{k s A:Nat}(hk:0<k)(k7:k<=100)(s7:s<=100)(g0:g 0=1)(ha:∀ i,Lt2 A (a i))
  (h:∀ j,j<=s->sm (fun i=>(((i+1:Nat):Int)*(k+1)-j*k)*a (i+1)*g (j-(i+1))) j=j*k*g j):∀ j,j<=s->Lt2 ((A+22)*j+1) (g j):=by
 intro j;induction j using Nat.strongRecOn with
 | ind j ih =>
  intro hj;rcases dA j with e | e
  ·subst e;rw [g0];exact Lt2.mono (n:=1) (by unfold Lt2;decide) (by omega)
  ·have e1:=h j hj;have m1:(A+22)*j=(A+22)*(j-1)+(A+22):=by
    rw [show j=(j-1)+1 by omega,bJ];rfl
   have hF:∀ i,i<j->Lt2 (15+A+((A+22)*(j-1)+1)) ((((i+1:Nat):Int)*(k+1)-j*k)*a (i+1)*g (j-(i+1))):=fun i hi=>by
    have c1:(i+1)*(k+1)<=100*101:=cb (by omega) (by omega);have c2:j*k<=100*100:=cb (by omega) (by omega);have l1:Lt2 15 (((i+1:Nat):Int)*(k+1)-j*k):=by
     have c1':(((i+1:Nat):Int)*(k+1))=(((i+1)*(k+1):Nat):Int):=by push_cast;rfl
     have c2':((j:Int)*k)=((j*k:Nat):Int):=by push_cast;rfl
     rw [c1',c2'];unfold Lt2;omega
    have l3:=(ih (j-(i+1)) (by omega) (by omega)).mono (m:=(A+22)*(j-1)+1) (Nat.succ_le_succ (ak _ (by omega)));exact (l1.mul (ha _)).mul l3
   have b:=DY (b:=7) (i:=j) (by omega) hF;rw [e1] at b;have p:(g j).natAbs<=((j:Int)*k*g j).natAbs:=by
    rw [aR];refine aQ _ ?_;have:0<j*k:=g9 e hk;have q:((j:Int)*k)=((j*k:Nat):Int):=by push_cast;rfl
    rw [q];omega
   unfold Lt2;rw [show (A+22)*j+1=7+(15+A+((A+22)*(j-1)+1)) by omega,dY];refine b8 (aH p b) ?_;exact dO (show j<2^7 by omega) (bA (by decide))
theorem IC (ns:List Int):ns.sum=sm (fun i=>ns.getD i 0) ns.length:=by
 induction ns with
 | nil=>rfl
 | cons n ns ih =>
  rw [List.sum_cons,bg,u5,ih];rfl
end Ca
namespace Ca
open Cv L2
theorem Ia {P:Nat->Int}{n k:Nat}{c l:Int}(hl:P n=l)(h0:l≠0)(hc:c=((l.natAbs:Nat):Int)*k*k) :
  ∀ j,j<=n->l*(P (n-j)*c^j).fdiv l=P (n-j)*c^j/\(j=0->(P (n-j)*c^j).fdiv l=1)/\(0<j->(k*k:Int)∣(P (n-j)*c^j).fdiv l):=by
 intro j hj;cases j with
 | zero =>
  rw [bZ,hl,aT,bh];have:l.fdiv l=1:=by
   have:=dN 1 h0;rwa [bV] at this
  rw [this];exact ⟨bh _,fun _=>rfl,fun h=>absurd h (ca _)⟩
 | succ j =>
  obtain ⟨z,hz⟩:∃ z:Int,((l.natAbs:Nat):Int)=z*l/\True:=by
   rcases Int.natAbs_eq l with e | e
   ·exact ⟨1,by omega,trivial⟩
   ·exact ⟨-1,by omega,trivial⟩
  have e:P (n-(j+1))*c^(j+1)=(P (n-(j+1))*z*c^j*(k*k))*l:=by
   rw [aI];have:c=z*l*k*k:=by rw [hc,hz.1]
   calc P (n-(j+1))*(c^j*c)=P (n-(j+1))*c^j*c:=by grind
    _=P (n-(j+1))*c^j*(z*l*k*k):=congrArg _ this
    _=_:=by grind
  rw [e,dN _ h0];exact ⟨bt _ _,fun h=>absurd h (by omega),fun _=>Int.dvd_mul_left _ _⟩
def Cand (P:Nat->Int)(k s:Nat)(R:Nat->Int)(C:Int):Prop :=
 ∃ (c:Int) (g:Nat->Int),0<c/\g 0=1/\(∀ j,j<s->P (k*s-j)*c^j=P (k*s)*pw g k j)/\(∀ i,i<s->R (s-i)*c^i=g i*C)/\R 0=0
theorem Kv {c C:Int}{R g:Nat->Int}{s:Nat}(hc:0<c)(h:∀ m,m<s->R (m+1)*c^(s-1)=g (s-(m+1))*c^m*C):∀ i,i<s->R (s-i)*c^i=g i*C:=by
 intro i hi;have e:=h (s-i-1) (by omega);rw [show s-i-1+1=s-i by omega,show s-(s-i)=i by omega,show s-1=(s-i-1)+i by omega,cQ] at e;have p:c^(s-i-1)≠0:=cH (by omega);refine aJ p ?_;grind
end Ca
namespace L2
open PySem
section
variable {X:Cx}
theorem wf:∀ (ns:List Int) (n:Nat),n<=ns.length->preSum (fun i=>ns.getD i 0) n=(ns.take n).sum
 | ns,0,_=>by simp [preSum]
 | ns,n+1,h=>by
  have e:ns.take (n+1)=ns.take n++[ns.getD n 0]:=by
   rw [List.take_succ,ac,aq (by omega)];rfl
  rw [e,List.sum_append,← wf ns n (by omega)];simp [preSum]
theorem Mf (K:Frag)(hc:X.calm=true:=by rfl)(hK:X.K=K:=by rfl):CallR X (.builtin "sum") (fun xs H Q=>∃ p,∃ ns:List Int,xs=[.ref p]/\SqL K H p (ns.map V.int)/\Q (.int ns.sum) H):=by
 subst hK;intro pins s σ H xs us Q I rv h;obtain ⟨p,ns,rfl,hp,q⟩:=h;obtain ⟨u,rfl,ru⟩:=rv.one;cases ru;obtain ⟨its,rv',pl,_⟩:=I.list hp;obtain ⟨ys,e1,e2⟩:=u4 rv';subst e1;have hl:s.heap.IsList p (intItems ys.toArray):=by
  have:intItems ys.toArray=(ys.map (fun p=>Value.int p.1 p.2)).toArray:=by simp [intItems]
  rw [this];exact pl.isList
 refine sum_intListG (I.ok.hd hc) hl fun h' tk t' hk=>?_;refine ⟨.int _,H,I.kept (t':=tk) hk,⟨t',rfl⟩,?_⟩;have:preSum (numAt ys.toArray) ys.toArray.size=ns.sum:=by
  have e:numAt ys.toArray=fun i=>ns.getD i 0:=by
   funext i;rw [numAt_eq,← e2]
  have l:ys.toArray.size=ns.length:=by rw [← e2];simp
  rw [e,l,wf ns _ (am _),bM]
 rw [this];exact q
end
end L2
namespace L2
open PySem PySem.Spec PyProof.Rows
theorem CW {P:Program}{w:World}{K:Frag}{tg:Expr}(n:Nat)(a it:Addr):Turn P w K tg (⟨fun i H=>i<n/\∃ xs x,SqL K H a xs/\xs.length=n/\xs.reverse[i]? = some x,fun i H x H'=>H'=H/\∀ xs,SqL K H a xs->xs.reverse[i]? = some x,fun i H=>i=n⟩:It) [it] it (fun i h=>h.IsRevIter it a ((n:Int)-1-(i:Int))) where
 mem:=by simp
 obj:=fun i h st b hb=>by
  have e:b=it:=by simpa using hb
  subst e;obtain ⟨o,e,c,d⟩:=st;exact ⟨o,e,fun v z=>by rw [d] at z;cases z⟩
 keep:=fun i h h' st k=>by
  obtain ⟨o,e,r⟩:=st;exact ⟨o,k it (by simp) o e,r⟩
 item:=by
  intro X hP hw hK hc i pins s σ H E I hf st hg;subst hP hw hK;obtain ⟨hlt,xs,x,hq,hn,hx⟩:=hg;obtain ⟨its,rv,p,hz⟩:=I.list hq;have hlen:=rv.length;rw [bX (by omega)] at hx;obtain ⟨u,hu,ru⟩:=rv.get hx;obtain ⟨f0,f1,f2,f3,f4,f5⟩:=hf it (by simp);have e0:(n:Int)-1-(i:Int)=((xs.length-1-i:Nat):Int):=by omega
  have st':s.heap.IsRevIter it a ((xs.length-1-i:Nat):Int):=by rw [← e0];exact st
  refine wpAny_pyNext_rev_item (i:=xs.length-1-i) st' p.isList (x:=u) (by simpa using hu) fun h' st2 sb=>?_;have I1:Inv X pins σ H { s with heap:=h' }:=I.turned (t':=s.toks) (fun b o hb e=>(sb.2 b hb).trans e) f0 f1 f3 f4 f5;obtain ⟨o,e,c,d⟩:=id st2;refine ⟨u,rfl,AE (s:={ s with heap:=h' }) e c d (by decide) ⟨x,H,I1,ru,⟨rfl,fun ys hy=>?_⟩,?_,fun b hb=>(hf b hb).1⟩⟩
  ·rw [I.list_inj hy hq,bX (by omega)];exact hx
  ·show h'.IsRevIter it a ((n:Int)-1-((i+1:Nat):Int));rw [show (n:Int)-1-((i+1:Nat):Int)=((xs.length-1-i:Nat):Int)-1 by omega];exact st2
 done:=by
  intro X hP hw hK hc i pins s σ H E I hf st hg;subst hP hw hK;have hg':i=n:=hg;subst hg';obtain ⟨f0,f1,f2,f3,f4,f5⟩:=hf it (by simp);have st':s.heap.IsRevIter it a (-1):=by
   have e:(i:Int)-1-(i:Int) = -1:=by omega
   rw [← e];exact st
  exact wpAny_pyNext_rev_end (I.ok.hd hc) st' fun h' eb=>⟨rfl,I.turned (t':=s.toks) (fun b o hb e=>eb b o hb e) f0 f1 f3 f4 f5⟩
 self:=fun _ _ _ _ _ st h=>wpAny_pyIter_revIter st h
end L2
namespace L2
open PySem PySem.Spec PyProof.Rows
theorem Dj:fillsNumberSlot (.type "tuple") "mul" = pure false:=PySem.fillsNumberSlot_seq (id := "tuple.__mul__") (r:=some (.builtin "tuple.__rmul__")) F.slot_tuple_mul.lookup (by decide +kernel) F.slot_tuple_rmul.lookup (by decide +kernel)
theorem IM:seqRepeat? (.type "tuple")=pure (some (.builtin "tuple.__mul__")):=by
 unfold seqRepeat?;rw [PySem.seqSlot_of (T := "tuple") (name := "__mul__") (id := "tuple.__mul__") F.slot_tuple_mul.lookup (by decide +kernel),PySem.seqSlot_of (T := "tuple") (name := "__rmul__") (id := "tuple.__rmul__") F.slot_tuple_rmul.lookup (by decide +kernel)];rfl
theorem F5 (a:Int)(t:Tok)(l:Addr)(items:Array Value)(n:Nat)(dd:Option Addr)(sl:Array (Option Value)):Meets (Builtin.«int.__rmul__» ⟨[.int a t,.ref l],[]⟩) (fun _ R s=>s.heap.get? l=some { cls:=.type "tuple",dict:=dd,data:=.seq items n,slots:=sl }/\R (.ok (.ret Value.notImplemented)) s) :=
 .of_wp fun prog w A R s h=>by obtain ⟨p1,p2,p3,p4,p5⟩:=s;obtain ⟨hl,h⟩:=h;wp_walk;exact ⟨_,rfl,h⟩
theorem GE (l:Addr)(items:Array Value)(n:Nat)(u:Tok)(dd:Option Addr)(sl:Array (Option Value)):Meets (Builtin.«tuple.__mul__» ⟨[.ref l,.int 1 u],[]⟩) (fun _ R s=>s.heap.get? l=some { cls:=.type "tuple",dict:=dd,data:=.seq items n,slots:=sl }/\R (.ok (.ret (.ref l))) s) :=
 .of_wp fun prog w A R s h=>by
  obtain ⟨p1,p2,p3,p4,p5⟩:=s;obtain ⟨hl,h⟩:=h;have f2:=AutoSeq1.sub_tuple_tuple
  wp_walk using AutoSeq1.wpAny_loadPart' hl
  exact ⟨_,rfl,h⟩
theorem GD (l:Addr)(items:Array Value)(n:Nat)(x:Int)(u:Tok)(dd:Option Addr)(sl:Array (Option Value))(h0:items.isEmpty=false)(h1:¬ (decide (x < -(2^63)) || decide (x ≥ 2^63))=true)(h2:(x == 1)=false)(h3:¬ x<=0)(h4:¬ (items.size:Int)*x > (2^63-1) / 8)(h5:Builtin.Tuple.tupleTooMany ((items.size:Int)*x)=false)(h6:(List.foldl (fun x1 x2=>x1++x2) #[] (List.replicate x.toNat items)).size<=sizeLine) :
  Meets (Builtin.«tuple.__mul__» ⟨[.ref l,.int x u],[]⟩) (fun _ R s=>s.heap.get? l=some { cls:=.type "tuple",dict:=dd,data:=.seq items n,slots:=sl }/\R (.ok (.ret (.ref s.heap.objs.size))) { s with heap:=s.heap.push { cls:=.type "tuple",data:=.seq (List.foldl (fun x1 x2=>x1++x2) #[] (List.replicate x.toNat items)) } }) :=
 .of_wp fun prog w A R s h=>by
  obtain ⟨p1,p2,p3,p4,p5⟩:=s;obtain ⟨hl,h⟩:=h;have f2:=AutoSeq1.sub_tuple_tuple
  wp_walk using AutoSeq1.wpAny_loadPart' hl
  rw [if_neg h1]
  wp_walk using AutoSeq1.wpAny_loadPart' hl
  rw [if_neg h4]
  wp_walk
  exact ⟨_,rfl,h⟩
def Kz (K:Frag):R2:=fun x y H Q=>∃ l xs,∃ k:Nat,x = .ref l/\y = .int k/\SqT K H l xs/\xs≠[]/\1<=k/\xs.length*k<=100000/\(k=1->Q (.ref l) H)/\(k≠1->∀ p,H p=none->Q (.ref p) (tN H p (.tup (List.replicate k xs).flatten)))
theorem Gk {X:Cx}:OpR X (binaryOp .Mult) (Kz X.K):=by
 intro pins s σ H x y v u Q I rx ry h;obtain ⟨l,xs,k,rfl,rfl,hH,hne,hk,hz,q1,q2⟩:=h;cases rx;obtain ⟨t,rfl⟩:=ry;obtain ⟨its,rv,p,hz2⟩:=I.tuple hH;obtain ⟨⟨cls,dd,data,sl⟩,e,hc,n,hd⟩:=p;simp only at hc hd;subst hc hd;have hl:=rv.length;have sz:100000<=sizeLine:=by rw [sizeLine_eq];decide
 have go:∀ z:Int,z=(k:Int)->wpAny (model X.prog X.w) X.A (call (.builtin "tuple.__mul__") [.ref l,.int z t]) (EP X pins σ Q) X.xe s:=by
  rintro z hzk;by_cases h1:k=1
  ·rw [show z=1 by omega];exact call_meets F.slot_tuple_mul ⟨_,e,rfl⟩ F.entry_tuple_mul (F.args_tuple_mul_2 _ _) (GE l its.toArray n t dd sl) ⟨e,⟨.ref l,H,I,rfl,q1 h1⟩⟩
  ·have f0:∀ m:Nat,List.foldl (fun x1 x2=>x1++x2) #[] (List.replicate m its.toArray)=(List.replicate m its).flatten.toArray:=fun m=>by
    have:=wu its m [];rw [List.nil_append] at this;exact this
   have zk:z.toNat=k:=by omega
   have im:(its.toArray.size:Int)*z=((xs.length*k:Nat):Int):=by rw [hzk,ai,← hl];exact (Int.natCast_mul _ _).symm
   refine call_meets F.slot_tuple_mul ⟨_,e,rfl⟩ F.entry_tuple_mul (F.args_tuple_mul_2 _ _) (GD l its.toArray n z t dd sl ?_ ?_ ?_ ?_ ?_ ?_ ?_) ⟨e,?_⟩
   ·cases its with
    | nil=>exact absurd (cU.mp hl) hne
    | cons=>rfl
   ·simp;have:xs.length*k ≥ k:=aQ _ (du.mpr hne);omega
   ·have:z≠1:=by omega
    simpa using this
   ·omega
   ·rw [im];omega
   ·unfold Builtin.Tuple.tupleTooMany;rw [im];exact decide_eq_false (by omega)
   ·rw [f0,zk,ai,zd,← hl,bQ];omega
   ·rw [f0,zk];refine ⟨.ref _,_,I.laid (o:=.tup (List.replicate k xs).flatten) (t':=s.toks) (fun b u e=>Heap.get?_push_of_some _ e) (am _) ⟨?_,(List.replicate k its).flatten,rv.rep k,⟨_,Heap.get?_push_size _ rfl,rfl,_,rfl⟩⟩,rfl,q2 h1 _ I.fresh⟩;rw [zd,bQ];omega
 generalize hzk:(k:Int)=z;refine wpAny_binaryOp_repeat_ref (T := "tuple") (U := "int") (by decide) ⟨_,e,rfl⟩ (fun s'=>typeIs_int s' z t) Dj F.fills_int_mul F.slot_int_rmul IM F.slot_int_index.lookup
  (call_meets F.slot_int_rmul (typeIs_int s z t) F.entry_int_rmul (F.args_int_rmul_2 _ _) (F5 z t l its.toArray n dd sl) ⟨e,rfl,⟨_,e,rfl⟩,go z hzk.symm⟩)
end L2
namespace L2
open PySem PySem.Spec PyProof.Rows
variable {X:Cx}{pins:List (Addr×Obj)}{σ:St}{H:Hp}{s:Shared}
def IW (K:Frag)(neg:Bool):R2:=fun x y H Q=>∃ d ds,Rep K H d x/\Rep K H (.lst ds) y/\d.pl=true/\DV.pls ds=true/\DV.dps ds<=60/\∀ b,(b=true↔d∈ds)->Q (.bl (if neg then !b else b)) H
theorem Ai {K:Frag}:∀ {ds:List DV} {vs:List V} {us:List Value},Reps K H ds vs->Vals vs us->DV.pls ds=true->DV.dps ds<=60->(∀ w∈us,∃ di∈ds,∃ xi,Rep K H di xi/\RelV xi w/\di.pl=true/\di.dp<=60)/\∀ di∈ds,∃ w∈us,∃ xi,Rep K H di xi/\RelV xi w
 | [],vs,us,h,r,_,_=>by
  unfold Reps at h;subst h;cases r;exact ⟨fun w h=>absurd h aP,fun w h=>absurd h aP⟩
 | d::ds,vs,us,h,r,p,hd=>by
  unfold Reps at h;obtain ⟨x,r',rfl,h1,h2⟩:=h;cases r with
  | cons rx rxs =>
   unfold DV.pls at p;rw [bN] at p;unfold DV.dps at hd;obtain ⟨i1,i2⟩:=Ai h2 rxs p.2 (by omega);refine ⟨fun w hw=>?_,fun di hi=>?_⟩
   ·rcases au.mp hw with e | e
    ·rw [e];exact ⟨d,ar,x,h1,rx,p.1,by omega⟩
    ·obtain ⟨di,m,z⟩:=i1 w e;exact ⟨di,aw _ m,z⟩
   ·rcases au.mp hi with e | e
    ·rw [e];exact ⟨_,ar,x,h1,rx⟩
    ·obtain ⟨w,m,z⟩:=i2 di e;exact ⟨w,aw _ m,z⟩
open Classical in
theorem AA {K:Frag}{k:Nat}(hr:Room k X.A)(hK:X.K=K)(I:Inv X pins σ H s){d:DV}{ds:List DV}{x:V}{v:Value}{vs:List V}{us:List Value}(h1:Rep K H d x)(rx:RelV x v)(r1:Reps K H ds vs)(rv:Vals vs us)(p1:d.pl=true)(p2:DV.pls ds=true)(hd:DV.dps ds<=60) :
  ∃ e:Value->Bool,(∀ w∈us,SeqAt.EqAt X.A.in1 s w v (e w))/\(us.any e=true↔d∈ds):=by
 subst hK;obtain ⟨i1,i2⟩:=Ai r1 rv p2 hd;have hun:=hr.units;have key:∀ w∈us,∀ di∈ds,∀ xi,Rep X.K H di xi->RelV xi w->(decide (∃ xi,RelV xi w/\Rep X.K H d xi)=true↔di=d):=fun w hw di hi xi hx rw'=>by
  rw [decide_eq_true_iff];constructor
  ·rintro ⟨x',r',h'⟩;rw [RelV.inj r' rw'] at h';exact Rep.inj I hx h'
  ·rintro rfl;exact ⟨xi,rw',hx⟩
 refine ⟨fun w=>decide (∃ xi,RelV xi w/\Rep X.K H d xi),fun w hw=>?_,?_⟩
 ·obtain ⟨di,hi,xi,hx,rw',pi,dpi⟩:=i1 w hw;obtain ⟨b,hb,ib⟩:=MC I di d X.A.in1 hx h1 rw' rx pi p1 (by show X.A.units+1+_+1<_;omega);have:decide (∃ xi,RelV xi w/\Rep X.K H d xi)=b:=cN.mpr ((key w hw di hi xi hx rw').trans ib.symm);dsimp only;rw [this];exact hb
 ·rw [gw];constructor
  ·rintro ⟨w,hw,he⟩;obtain ⟨di,hi,xi,hx,rw',_,_⟩:=i1 w hw;exact (key w hw di hi xi hx rw').mp he ▸ hi
  ·intro hm;obtain ⟨w,hw,xi,hx,rw'⟩:=i2 d hm;exact ⟨w,hw,(key w hw d hm xi hx rw').mpr rfl⟩
theorem Jq (K:Frag){k:Nat}(hr:Room k X.A)(hK:X.K=K:=by rfl):OpR X (compareOp .In) (IW K false):=by
 intro pins s σ H x y u v Q I rx ry h;obtain ⟨d,ds,h1,h2,p1,p2,hd,q⟩:=h;unfold Rep at h2;obtain ⟨a,vs,rfl,t1,r1⟩:=h2;cases ry;subst hK;obtain ⟨its,rv,p,_⟩:=I.list t1;obtain ⟨e,he,hi⟩:=AA hr rfl I h1 rx r1 rv p1 p2 hd;refine SeqAt.in_listAt e p.isList (fun w hw=>he w (by simpa using hw)) ⟨.bl _,H,I,rfl,?_⟩;rw [show its.toArray.any e=its.any e by simp];exact q _ hi
theorem Dd (K:Frag){k:Nat}(hr:Room k X.A)(hK:X.K=K:=by rfl):OpR X (compareOp .NotIn) (IW K true):=by
 intro pins s σ H x y u v Q I rx ry h;obtain ⟨d,ds,h1,h2,p1,p2,hd,q⟩:=h;unfold Rep at h2;obtain ⟨a,vs,rfl,t1,r1⟩:=h2;cases ry;subst hK;obtain ⟨its,rv,p,_⟩:=I.list t1;obtain ⟨e,he,hi⟩:=AA hr rfl I h1 rx r1 rv p1 p2 hd;refine SeqAt.notIn_listAt e p.isList (fun w hw=>he w (by simpa using hw)) ⟨.bl _,H,I,rfl,?_⟩;rw [show its.toArray.any e=its.any e by simp];exact q _ hi
end L2
set_option maxHeartbeats 1000000
namespace PySem.SeqAt
open PySem PySem.Calls PySem.MeetsSeq
def LtAt (A:Around)(s:Shared)(x y:Value)(b:Bool):Prop:=∀ (prog:Program) (w:World) (E:Value->Shared->Prop) (Q:Value->Shared->Prop),Q (.bool b) s->wpAny (model prog w) A (richCompare .Lt x y) Q E s
def lx (e c:Nat->Bool)(fin:Bool):List Nat->Bool
 | []=>fin
 | j::r=>if e j then lx e c fin r else c j
theorem A5 (l b:Addr)(items items2:Array Value)(n n2:Nat)(dd dd2:Option Addr)(sl sl2:Array (Option Value))(e c:Nat->Bool) :
  Meets (Builtin.«tuple.__lt__» ⟨[.ref l,.ref b],[]⟩)
   (fun A R s=>s.heap.get? l=some { cls:=.type "tuple",dict:=dd,data:=.seq items n,slots:=sl }/\s.heap.get? b=some { cls:=.type "tuple",dict:=dd2,data:=.seq items2 n2,slots:=sl2 } /\
    (∀ j (h1:j<items.size) (h2:j<items2.size),EqAt A.in1 s items[j] items2[j] (e j))/\(∀ j (h1:j<items.size) (h2:j<items2.size),e j=false->LtAt A.in1 s items[j] items2[j] (c j)) /\
    R (.ok (.ret (.bool (lx e c (decide (items.size<items2.size)) (List.range (min items.size items2.size)))))) s) :=
 .of_wp fun prog w A R s h=>by
  obtain ⟨hp,g,d,tk,os⟩:=s;obtain ⟨hl,hb,he,hc,h⟩:=h;have f2:=AutoSeq1.sub_tuple_tuple;have hZ:(items.toList.zip items2.toList).length=min items.size items2.size:=by simp
  wp_walk using wpAny_loadPart' hl,wpAny_loadPart' hb,wpAny_forIn_list _ (fun rest b s'=>b.1=none/\s'=⟨hp,g,d,tk,os⟩/\∃ i,rest=(items.toList.zip items2.toList).drop i /\
   R (.ok (.ret (.bool (lx e c (decide (items.size<items2.size)) ((List.range (min items.size items2.size)).drop i))))) ⟨hp,g,d,tk,os⟩) _
  case turn =>
   rintro ⟨y,x⟩ rest b s' ⟨hb',rfl,i,hz,hR⟩;have hlt:i<(items.toList.zip items2.toList).length:=by
    rcases ao i (items.toList.zip items2.toList).length with h' | h'
    ·exact h'
    ·rw [gP h'] at hz;cases hz
   have hm:i<min items.size items2.size:=hZ ▸ hlt;have h1:i<items.size:=aE hm (Nat.min_le_left _ _);have h2:i<items2.size:=aE hm (Nat.min_le_right _ _);rw [dq hlt] at hz;injection hz with hyx hrest;have hy:y=items[i]:=by have:=congrArg Prod.fst hyx;simpa using this
   have hx:x=items2[i]:=by have:=congrArg Prod.snd hyx;simpa using this
   subst hy hx;have hd:(List.range (min items.size items2.size)).drop i=i::(List.range (min items.size items2.size)).drop (i+1):=by simp [dq,hm]
   rw [hd,lx] at hR;refine wpAny_bind (he i h1 h2 prog w _ _ ?_);cases hy:e i with
   | true =>
    rw [hy] at hR
    wp_walk
    exact ⟨rfl,rfl,i+1,hrest,by simpa using hR⟩
   | false =>
    rw [hy] at hR;rw [if_pos (by rfl)];refine wpAny_bind (wpAny_rule (wpAny_bind (hc i h1 h2 hy prog w _ _ ?_)))
    wp_walk
    exact ⟨_,rfl,by simpa using hR⟩
  case fin =>
   rintro ⟨b1,b2⟩ s' ⟨hb',rfl,i,hz,hR⟩;simp only at hb';subst hb';have hge:min items.size items2.size<=i:=by
    rcases ao i (items.toList.zip items2.toList).length with h' | h'
    ·rw [dq h'] at hz;cases hz
    ·exact hZ ▸ h'
   rw [gP (by simpa using hge),lx] at hR
   wp_walk
   exact ⟨_,rfl,by simpa [Builtin.Tuple.tupleCompareSizes] using hR⟩
  case h =>
   exact ⟨rfl,rfl,0,rfl,by simpa using h⟩
end PySem.SeqAt
namespace PySem.SeqAt
open PySem PySem.Calls PySem.MeetsSeq
section
variable {A:Around}{s:Shared}
theorem LtAt.tuples {l b:Addr}{items items2:Array Value}{e c:Nat->Bool}(hl:s.heap.IsTuple l items)(hb:s.heap.IsTuple b items2)(hu:A.units<cLine)
  (he:∀ j (h1:j<items.size) (h2:j<items2.size),EqAt A.in1 s items[j] items2[j] (e j)) (hc:∀ j (h1:j<items.size) (h2:j<items2.size),e j=false->LtAt A.in1 s items[j] items2[j] (c j)):LtAt A s (.ref l) (.ref b) (lx e c (decide (items.size<items2.size)) (List.range (min items.size items2.size))):=fun prog w E Q h=>by
 obtain ⟨⟨cls,dd,data,sl⟩,ho,hc',n,hd⟩:=id hl;obtain ⟨⟨cls2,dd2,data2,sl2⟩,ho2,hc2,n2,hd2⟩:=id hb;simp only at hc' hd hc2 hd2;subst hc' hd hc2 hd2;exact richCompare_meets_room (op:=.Lt) ⟨_,ho,rfl⟩ ⟨_,ho2,rfl⟩ F.slot_tuple_lt F.entry_tuple_lt (F.args_tuple_lt_2 _ _) (A5 l b items items2 n n2 dd dd2 sl sl2 e c)
  ⟨ho,ho2,he,hc,(show Value.bool _≠Value.notImplemented/\Q (.bool _) s from ⟨(fun x=>nomatch x),h⟩)⟩ hu
end
end PySem.SeqAt
namespace PySem.W
open PySem PySem.Calls PyProof.Rows
section
variable {prog:Program}{w:World}{A:Around}{E:Value->Shared->Prop}{s:Shared}
theorem zb {a:Addr} {vs:List Value} {n:Nat} {P:PySem.Fin->Shared->Prop} {G:List Value->Prop} (ho:s.heap.get? a=some (seqObj "list" vs.toArray n)) (h64:vs.length<64) (h1:vs.length<2->G vs)
  (ask:2<=vs.length->∀ h',(∀ b o,b≠a->s.heap.get? b=some o->h'.get? b=some o)->wpAny (model prog w) A (keyKind' vs.toArray) (fun κ s'=>(kas_sort vs.length).kasWp (kas_ask prog w A κ vs) (fun p s''=>s'' = { s with heap:=h' }/\G (p.toList.map fun i=>vs.getD i Value.none)) s') (fun _ _=>False) { s with heap:=h' })
  (h:∀ out:List Value,G out->out.length=vs.length->P (.done (.ret .none)) { s with heap:=sortedHeap s.heap a vs out.toArray }) :
  wpAny (model prog w) A (Builtin.«list.sort» ⟨[.ref a],[]⟩) P E s:=by
 rw [list_sort_plain];have ha:a<s.heap.objs.size:=Heap.lt_size ho;refine wpAny_bind (listItems_at ho rfl ?_);refine wpAny_bind (listUpdate_at ho rfl ?_ (by rw [ai,sizeLine_eq];omega) (aC _));obtain ⟨e1,ho1⟩:∃ e1,(s.heap.update a (Obj.mapSeq fun _ => #[])).get? a=some (seqObj "list" #[] e1):=⟨_,get?_update_seq ho (fun _ => #[])⟩;refine wpAny_bind (seqEpoch_at ho1 rfl ?_);refine wpAny_bind (wpAny_newTuple ?_ (by show vs.length<=_;rw [sizeLine_eq];omega));refine wpAny_bind (wpAny_newList ?_ (aC _));refine wpAny_holding ?_;have ho6:(((s.heap.update a (Obj.mapSeq fun _ => #[])).push (seqObj "tuple" vs.toArray 0)).push (seqObj "list" #[] 0)).get? a=some (seqObj "list" #[] e1):=by
  rw [Heap.get?_push_ne _ _ _ (by rw [size_push',Heap.size_update];exact aU (df ha)),Heap.get?_push_ne _ _ _ (by rw [Heap.size_update];exact aU ha)];exact ho1
 show wpAny (model prog w) A _ P E { s with heap:=((s.heap.update a (Obj.mapSeq fun _ => #[])).push (seqObj "tuple" vs.toArray 0)).push (seqObj "list" #[] 0) };dsimp only;have keep:∀ b o,b≠a->s.heap.get? b=some o->(((s.heap.update a (Obj.mapSeq fun _ => #[])).push (seqObj "tuple" vs.toArray 0)).push (seqObj "list" #[] 0)).get? b=some o:=fun b o hb e =>
  Heap.get?_push_of_some _ (Heap.get?_push_of_some _ (by rw [Heap.get?_update_ne _ _ _ _ hb];exact e))
 by_cases h2:vs.toArray.size<2
 ·rw [if_pos h2,if_pos h2];refine wpAny_bind (wpAny_pure ?_);rw [StateT.run_pure];refine wpAny_bind (wpAny_pure ?_);dsimp only;have e0:(arrOf (SortSt.mk' general' (vs.toArray.zip vs.toArray) #[] 7 none)).map (·.2)=vs.toArray:=by
   show (vs.toArray.zip vs.toArray).map (·.2)=vs.toArray;simp;exact List.map_snd_zip (am _)
  rw [e0];refine wpAny_bind (seqEpoch_at ho6 rfl ?_);refine wpAny_bind (listUpdate_at ho6 rfl ?_ (aC _) (by rw [ai,sizeLine_eq];omega));simp only [bne_self_eq_false,cK,if_false];exact wpAny_pure (h vs (h1 (by simpa using h2)) rfl)
 ·rw [if_neg h2,if_neg h2];have hge:2<=vs.length:=by simpa using h2
  refine wpAny_bind (wpAny_mono (ask hge _ keep) (fun κ s0 hk=>?_) fun _ _ x=>x.elim);refine wpAny_bind (wpAny_mono (kat_run (Q:=fun st' s'=>∃ p:Array Nat,p.size=vs.length/\arrOf st'=p.map (kas_item (vs.toArray.zip vs.toArray))/\failedOf st'=none/\s' = { s with heap:=((s.heap.update a (Obj.mapSeq fun _ => #[])).push (seqObj "tuple" vs.toArray 0)).push (seqObj "list" #[] 0) }/\G (p.toList.map fun i=>vs.getD i Value.none))
   rfl hge h64 (fun p' st' s' a1 a2 a3 a4=>⟨p',a1,a2,a3,a4⟩) hk) ?_ fun _ _ e=>e)
  rintro ⟨⟨⟩,st'⟩ s' ⟨p,hp,har,hf,rfl,hg⟩;dsimp only;have hout:=kat_snds rfl har;rw [hout];refine wpAny_bind (seqEpoch_at ho6 rfl ?_);refine wpAny_bind (listUpdate_at ho6 rfl ?_ (aC _) (by rw [ai,aa,dr,hp,sizeLine_eq];omega));rw [hf];simp only [bne_self_eq_false,cK,if_false];exact wpAny_pure (h _ hg (by rw [aa,dr,hp]))
theorem z9 {h:Heap} {a:Addr} {vs:List Value} {out:Array Value} {n:Nat} (ho:h.get? a=some (seqObj "list" vs.toArray n)):(∃ c,(sortedHeap h a vs out).get? a=some (seqObj "list" out c))/\∀ b o,b≠a->h.get? b=some o->(sortedHeap h a vs out).get? b=some o:=by
 have ha:a<h.objs.size:=Heap.lt_size ho;obtain ⟨e1,ho1⟩:∃ e1,(h.update a (Obj.mapSeq fun _ => #[])).get? a=some (seqObj "list" #[] e1):=⟨_,get?_update_seq ho (fun _ => #[])⟩;have ho6:(((h.update a (Obj.mapSeq fun _ => #[])).push (seqObj "tuple" vs.toArray 0)).push (seqObj "list" #[] 0)).get? a=some (seqObj "list" #[] e1):=by
  rw [Heap.get?_push_ne _ _ _ (by rw [size_push',Heap.size_update];exact aU (df ha)),Heap.get?_push_ne _ _ _ (by rw [Heap.size_update];exact aU ha)];exact ho1
 refine ⟨⟨_,get?_update_seq ho6 (fun _=>out)⟩,fun b o hb e=>?_⟩;unfold sortedHeap;rw [Heap.get?_update_ne _ _ _ _ hb];exact Heap.get?_push_of_some _ (Heap.get?_push_of_some _ (by rw [Heap.get?_update_ne _ _ _ _ hb];exact e))
theorem C1 {l:Addr}{vs:List Value}{Q:Value->Shared->Prop}{G:List Value->Prop}(hl:s.heap.IsList l vs.toArray)(h64:vs.length<64)(h1:vs.length<2->G vs)
  (ask:2<=vs.length->∀ h',(∀ b o,s.heap.get? b=some o->h'.get? b=some o)->wpAny (model prog w) A.in1.in1 (keyKind' vs.toArray) (fun κ s'=>(kas_sort vs.length).kasWp (kas_ask prog w A.in1.in1 κ vs) (fun p s''=>s'' = { s with heap:=h' }/\G (p.toList.map fun i=>vs.getD i Value.none)) s') (fun _ _=>False) { s with heap:=h' })
  (h:∀ (out:List Value) (D c:Nat) (h':Heap),G out->out.length=vs.length->(∀ b o,s.heap.get? b=some o->h'.get? b=some o)->s.heap.objs.size<=D->h'.get? D=some (seqObj "list" out.toArray c)->Q (.ref D) { s with heap:=h' }) :
  wpAny (model prog w) A (call (.builtin "sorted") [.ref l]) Q E s:=by
 refine Calls.call_function_entry kind_sorted plain_sorted entry_sorted (args_sorted1 _) ?_;unfold Builtin.«sorted»;refine wpAny_bind (m:=checkCount "sorted" 1 1 _) (wpAny_pure ?_);refine wpAny_bind (collect_list hl ?_ (by rw [sizeLine_eq];omega));refine wpAny_bind (wpAny_newList ?_ (by rw [sizeLine_eq];omega));have hsz:((s.heap.push (seqObj "list" #[] 0)).update s.heap.objs.size (Obj.mapSeq (· ++ vs.toArray))).objs.size=s.heap.objs.size+1:=by
  rw [Heap.size_update,size_push']
 have hoL:(((s.heap.push (seqObj "list" #[] 0)).update s.heap.objs.size (Obj.mapSeq (· ++ vs.toArray))).push (seqObj "list" vs.toArray 0)).get? (s.heap.objs.size+1)=some (seqObj "list" vs.toArray 0):=by
  rw [← hsz];exact Heap.get?_push_size _ rfl
 have keep:∀ b o,s.heap.get? b=some o->(((s.heap.push (seqObj "list" #[] 0)).update s.heap.objs.size (Obj.mapSeq (· ++ vs.toArray))).push (seqObj "list" vs.toArray 0)).get? b=some o:=fun b o q=>by
  have hlt:b<s.heap.objs.size:=Heap.lt_size q;rw [Heap.get?_push_ne _ _ _ (by rw [hsz];exact aU (df hlt)),Heap.get?_update_ne _ _ _ _ (aU hlt),Heap.get?_push_ne _ _ _ (aU hlt)];exact q
 have ne:∀ b o,s.heap.get? b=some o->b≠s.heap.objs.size+1:=fun b o q=>aU (df (Heap.lt_size q));show wpAny _ _ _ _ _ { s with heap:=((s.heap.push (seqObj "list" #[] 0)).update s.heap.objs.size (Obj.mapSeq (· ++ vs.toArray))).push (seqObj "list" vs.toArray 0) };rw [hsz];refine wpAny_bind (wpAny_holding (wpAny_call_entry slot_list_sort ⟨_,hoL,rfl⟩ entry_list_sort ?body (args_list_sort _)));case body =>
  refine zb (G:=G) (s:={ s with heap:=((s.heap.push (seqObj "list" #[] 0)).update s.heap.objs.size (Obj.mapSeq (· ++ vs.toArray))).push (seqObj "list" vs.toArray 0) }) hoL h64 h1 (fun h2 h' k=>ask h2 h' fun b o q=>k b o (ne b o q) (keep b o q)) fun out hg lo=>?_;obtain ⟨⟨c,e⟩,k⟩:=z9 (out:=out.toArray) hoL;exact ⟨_,rfl,wpAny_pure ⟨_,rfl,h out _ c _ hg lo (fun b o q=>k b o (ne b o q) (keep b o q)) (d9 _) e⟩⟩
end
end PySem.W
set_option maxHeartbeats 1000000
namespace L2
open PySem PySem.Spec PyProof.Rows PySem.W
theorem Mt {cmp:Nat->Nat->(Bool->Shared->Prop)->Shared->Prop}{Q:Array Nat->Shared->Prop}{s:Shared}(h:cmp 1 0 (fun b s'=>Q (if b=true then #[1,0] else #[0,1]) s') s):(kas_sort 2).kasWp cmp Q s:=by
 have e:(fun (b:Bool) (s':Shared)=>Q (if b=true then #[1,0] else #[0,1]) s')=fun (b:Bool) (s':Shared)=>(((if b=true then KasT.ret 1 else kas_asc (List.toArray (List.range 2)) 0 2).bind fun n=>if (n == 2)=true then .ret (n,(List.toArray (List.range 2))) else if n > 1 then .ask ((List.toArray (List.range 2)).getD 0 0) ((List.toArray (List.range 2)).getD (n-1) 0) fun c=>if c=true then .ret (n,(List.toArray (List.range 2))) else kas_descPart n 2 (kas_rev (List.toArray (List.range 2)) 0 n) else kas_descPart n 2 (List.toArray (List.range 2))).bind fun r=>if r.1<2 then kas_bin (2-max r.1 1) r.2 (max r.1 1) else .ret r.2).kasWp cmp Q s':=by
  funext b s';cases b with
  | true=>rfl
  | false=>rfl
 rw [e] at h;exact h
def HQ:List Int->List Int->Bool
 | [],[]=>false
 | [],_::_=>true
 | _::_,[]=>false
 | a::as,b::bs=>if a=b then HQ as bs else decide (a<b)
theorem ET:∀ (as bs:List Int) (k:Nat),SeqAt.lx (fun j=>decide (as.getD (j-k) 0=bs.getD (j-k) 0)) (fun j=>decide (as.getD (j-k) 0<bs.getD (j-k) 0)) (decide (as.length<bs.length)) (List.range' k (min as.length bs.length))=HQ as bs
 | [],[],k=>rfl
 | [],_::_,k=>by simp [SeqAt.lx,HQ]
 | _::_,[],k=>by simp [SeqAt.lx,HQ]
 | a::as,b::bs,k=>by
  have ih:=ET as bs (k+1);rw [bg,bg,iC,List.range'_succ,SeqAt.lx,cD,fk,fk,HQ];by_cases c:a=b
  ·rw [if_pos (decide_eq_true c),if_pos c,← ih,show decide (as.length+1<bs.length+1)=decide (as.length<bs.length) by simp];have key:∀ (l:List Nat),(∀ j∈l,k+1<=j)->SeqAt.lx (fun j=>decide ((a::as).getD (j-k) 0=(b::bs).getD (j-k) 0)) (fun j=>decide ((a::as).getD (j-k) 0<(b::bs).getD (j-k) 0)) (decide (as.length<bs.length)) l=SeqAt.lx (fun j=>decide (as.getD (j-(k+1)) 0=bs.getD (j-(k+1)) 0)) (fun j=>decide (as.getD (j-(k+1)) 0<bs.getD (j-(k+1)) 0)) (decide (as.length<bs.length)) l:=by
    intro l;induction l with
    | nil=>intro _;rfl
    | cons j l ih =>
     intro h;have hj:=h j ar;have e:j-k=(j-(k+1))+1:=by omega
     rw [SeqAt.lx,SeqAt.lx,ih fun i hi=>h i (aw _ hi),e,cI,cI]
   exact key _ fun j hj=>(List.mem_range'_1.mp hj).1
  ·rw [if_neg (by simpa using c),if_neg c]
section
variable {X:Cx}{pins:List (Addr×Obj)}{σ:St}{H:Hp}{s:Shared}
theorem vD:∀ {as:List Int} {vs:List V},Reps X.K H (as.map DV.int) vs->vs=as.map V.int
 | [],vs,h=>by unfold List.map Reps at h;exact h
 | a::as,vs,h=>by
  rw [eh] at h;unfold Reps at h;obtain ⟨x,r,rfl,h1,h2⟩:=h;unfold Rep at h1;rw [h1,vD h2];rfl
theorem yu {as:List Int}{us:List Value}(h:Vals (as.map V.int) us):us.length=as.length/\∀ j,j<us.length->∃ t,us[j]? = some (.int (as.getD j 0) t):=by
 have hl:=h.length;rw [aa] at hl;refine ⟨hl.symm,fun j hj=>?_⟩;obtain ⟨u,hu,t,rfl⟩:=h.get (i:=j) (x:=.int (as.getD j 0)) (by rw [aO,ac,aq (by omega)];rfl);exact ⟨t,hu⟩
theorem GH (I:Inv X pins σ H s){A:Around}{as bs:List Int}{x y:V}{u v:Value}(h1:Rep X.K H (.tup (as.map .int)) x)(h2:Rep X.K H (.tup (bs.map .int)) y)(rx:RelV x u)(ry:RelV y v)(hu:A.units<cLine):SeqAt.LtAt A s u v (HQ as bs):=by
 unfold Rep at h1 h2;obtain ⟨a,vs,rfl,t1,r1⟩:=h1;obtain ⟨a',vs',rfl,t2,r2⟩:=h2;cases rx;cases ry;cases vD r1;cases vD r2;obtain ⟨its,rv,p,_⟩:=I.tuple t1;obtain ⟨its',rv',p',_⟩:=I.tuple t2;obtain ⟨l1,g1⟩:=yu rv;obtain ⟨l2,g2⟩:=yu rv';have at1:∀ j (h:j<its.toArray.size),∃ t,its.toArray[j] = .int (as.getD j 0) t:=fun j h=>by
  obtain ⟨t,e⟩:=g1 j (by simpa using h);exact ⟨t,by simpa using (aj.mp e).2⟩
 have at2:∀ j (h:j<its'.toArray.size),∃ t,its'.toArray[j] = .int (bs.getD j 0) t:=fun j h=>by
  obtain ⟨t,e⟩:=g2 j (by simpa using h);exact ⟨t,by simpa using (aj.mp e).2⟩
 have key:=SeqAt.LtAt.tuples (e:=fun j=>decide (as.getD j 0=bs.getD j 0)) (c:=fun j=>decide (as.getD j 0<bs.getD j 0)) p p' hu (fun j q1 q2=>by
   obtain ⟨t,e⟩:=at1 j q1;obtain ⟨t',e'⟩:=at2 j q2;rw [e,e'];exact SeqAt.EqAt.int_int _ _ _ _) (fun j q1 q2 _=>by
   obtain ⟨t,e⟩:=at1 j q1;obtain ⟨t',e'⟩:=at2 j q2;rw [e,e'];exact fun prog w E Q h=>lt_int h)
 have e:=ET as bs 0;simp only [bZ] at e;rw [ai,ai,l1,l2,List.range_eq_range',e] at key;exact key
def AW (p:List Int×Int):DV:=.tup [.tup (p.1.map .int),.int p.2]
def HP (p p':List Int×Int):Bool:=if p.1=p'.1 then decide (p.2<p'.2) else HQ p.1 p'.1
theorem xc (I:Inv X pins σ H s){p:List Int×Int}{x:V}{u:Value}(h:Rep X.K H (AW p) x)(rx:RelV x u):∃ (a:Addr) (o:Obj) (n:Nat) (y:V) (w:Value) (t:Tok),u = .ref a/\s.heap.get? a=some o/\o.cls = .type "tuple" /\ o.data = .seq #[w,.int p.2 t] n/\Rep X.K H (.tup (p.1.map .int)) y/\RelV y w:=by
 unfold AW Rep at h;obtain ⟨a,vs,rfl,t1,r1⟩:=h;cases rx;unfold Reps at r1;obtain ⟨y,r,rfl,h1,r2⟩:=r1;unfold Reps at r2;obtain ⟨y2,r3,rfl,h2,r4⟩:=r2;unfold Reps at r4;subst r4;unfold Rep at h2;subst h2;obtain ⟨its,rv,⟨o,e,c,n,d⟩,_⟩:=I.tuple t1;cases rv with
 | cons ra rv =>
  cases rv with
  | cons rb rv =>
   cases rv;obtain ⟨t,rfl⟩:=rb;exact ⟨a,o,n,y,_,t,rfl,e,c,d,h1,ra⟩
theorem GG (I:Inv X pins σ H s){prog:Program}{w:World}{A:Around}{E:Value->Shared->Prop}{p p':List Int×Int}{x y:V}{u v:Value}{Q:Bool->Shared->Prop}(h1:Rep X.K H (AW p) x)(h2:Rep X.K H (AW p') y)(rx:RelV x u)(ry:RelV y v)(hu:A.units+3<cLine)(q:Q (HP p p') s):wpAny (model prog w) A (keyLt' (tuples' false) u v) Q E s:=by
 obtain ⟨a,o,n,y1,w1,t1,rfl,e1,_,d1,r1,q1⟩:=xc I h1 rx;obtain ⟨a',o',n',y2,w2,t2,rfl,e2,_,d2,r2,q2⟩:=xc I h2 ry;have pl:∀ ts:List Int,(DV.tup (ts.map DV.int)).pl=true:=fun ts=>pls_ints ts;have dp:(DV.tup (p.1.map DV.int)).dp<=1:=by
  unfold DV.dp;rw [(xO p.1).1];exact am _
 obtain ⟨b,hb,ib⟩:=MC I _ _ A r1 r2 q1 q2 (pl p.1) (pl p'.1) (by omega);have inj:∀ {as bs:List Int},DV.tup (as.map DV.int)=DV.tup (bs.map DV.int)↔as=bs:=fun {as bs}=>by
  constructor
  ·intro e;injection e with e;induction as generalizing bs with
   | nil=>cases bs with
    | nil=>rfl
    | cons=>cases e
   | cons a as ih=>cases bs with
    | nil=>cases e
    | cons b bs =>
     injection e with e1 e2;injection e1 with e1;rw [e1,ih e2]
  ·rintro rfl;rfl
 refine kat_lt e1 d1 e2 d2 (kat_cons ?_);refine hb prog w _ _ (kat_go (fun c=>?_) (fun c=>?_))
 ·have ep:p.1=p'.1:=inj.mp (ib.mp c);refine kat_yes (kat_cons (SeqAt.EqAt.int_int _ _ _ _ prog w _ _ (kat_go (fun c2=>?_) (fun c2=>?_))))
  ·refine kat_yes (kat_nil ?_);have e3:p.2=p'.2:=by simpa using c2
   have:HP p p'=false:=by
    unfold HP;rw [if_pos ep,e3];simp
   rw [this] at q;exact q
  ·refine kat_no (kat_one _ _ (lt_int ?_));have:HP p p'=decide (p.2<p'.2):=if_pos ep;rw [this] at q;exact q
 ·have np:¬ p.1=p'.1:=fun e=>by
   have:=ib.mpr (inj.mpr e);rw [c] at this;cases this
  refine kat_no (kat_one _ _ (GH I r1 r2 q1 q2 (by omega) prog w _ _ ?_));have:HP p p'=HQ p.1 p'.1:=if_neg np;rw [this] at q;exact q
def F1:List (List Int×Int)->List (List Int×Int)
 | [p,q]=>if HP q p then [q,p] else [p,q]
 | l=>l
def F6 (K:Frag):List V->Hp->VK->Prop:=fun xs H Q=>∃ p ps,xs=[.ref p]/\Rep K H (.lst (ps.map AW)) (.ref p)/\ps.length<=2/\∀ l ys,H l=none->Reps K H ((F1 ps).map AW) ys->Q (.ref l) (tN H l (.lst ys))
theorem Av {M:Model} {h:Heap} {a:Addr} {o:Obj} (e:h.get? a=some o) (c:o.cls = .type "tuple"):Looks M h (typeOf (.ref a)) (.type "tuple"):=fun A Q E s k q=>by
 exact wpAny_typeOf ⟨o,k _ _ e,c⟩ q
theorem AQ (K:Frag){k:Nat}(hr:Room k X.A)(hK:X.K=K:=by rfl):CallR X (.builtin "sorted") (F6 K):=by
 subst hK;intro pins s σ H xs us Q I r h;obtain ⟨p,ps,rfl,hp,hl,q⟩:=h;obtain ⟨u,rfl,rx⟩:=wE r;cases rx;have hp':=hp;unfold Rep at hp';obtain ⟨a,vs,ea,t1,r1⟩:=hp';cases ea;obtain ⟨its,rv,pl,hz⟩:=I.list t1;have hun:=hr.units;have l1:=r1.length;rw [aa] at l1;have l2:=rv.length;refine C1 (G:=fun out=>∃ ys,Vals ys out/\ys.length=vs.length/\Reps X.K H ((F1 ps).map AW) ys) pl.isList (by omega) (fun h2=>?_) (fun h2 h' kp=>?_) (fun out D c h' ⟨ys,vy,ly,ry⟩ lo kp hD e=>?_)
 ·refine ⟨vs,rv,rfl,?_⟩;have:F1 ps=ps:=by
   match ps,l1 with
   | [],_=>rfl
   | [_],_=>rfl
   | _::_::_,l1=>simp at l1;omega
  rw [this];exact r1
 ·obtain ⟨P,R,rfl⟩:∃ P R,ps=[P,R]:=by
   match ps,l1,hl with
   | [P,R],_,_=>exact ⟨P,R,rfl⟩
   | [],l1,_=>simp at l1;omega
   | [_],l1,_=>simp at l1;omega
   | _::_::_::_,_,hl=>simp at hl
  have r1':=r1;unfold List.map Reps at r1';obtain ⟨x,r',rfl,hx,r2⟩:=r1';unfold List.map Reps at r2;obtain ⟨y,r3,rfl,hy,r4⟩:=r2;unfold List.map Reps at r4;subst r4;cases rv with
  | cons ra rv =>
   cases rv with
   | cons rb rv =>
    cases rv;rename_i u v;have I':Inv X pins σ H { s with heap:=h' }:=I.kept (t':=s.toks) kp;obtain ⟨a1,o1,n1,y1,w1,t1',eu,g1,c1,d1,z1,q1⟩:=xc I' hx ra;obtain ⟨a2,o2,n2,y2,w2,t2',ev,g2,c2,d2,z2,q2⟩:=xc I' hy rb;have lk:∀ {as:List Int} {y:V} {w:Value},Rep X.K H (.tup (as.map .int)) y->RelV y w->Looks (model X.prog X.w) h' (typeOf w) (.type "tuple"):=fun {as y w} z q=>by
     unfold Rep at z;obtain ⟨b,vs,rfl,tt,_⟩:=z;cases q;obtain ⟨_,_,⟨o,e,c,_⟩,_⟩:=I'.tuple tt;exact Av e c
    refine kat_kind (fs:=[w1,w2]) (T:=.type "tuple") ?_ (show 0<2 by decide) (fun f hf=>?_) (by decide) ?_
    ·rw [eu,ev];exact KatTups.cons g1 c1 d1 rfl (KatTups.cons g2 c2 d2 rfl KatTups.nil)
    ·rcases au.mp hf with e | hf
     ·rw [e];exact lk z1 q1
     ·rw [av.mp hf];exact lk z2 q2
    ·refine Mt ?_;refine GG I' hy hx rb ra (by show X.A.units+1+1+3<_;omega) ⟨rfl,?_⟩;show ∃ ys,Vals ys _/\ys.length=2/\Reps X.K H ((if HP R P then [R,P] else [P,R]).map AW) ys;cases HP R P with
     | true=>exact ⟨[y,x],.cons rb (.cons ra .nil),rfl,⟨y,[x],rfl,hy,x,[],rfl,hx,rfl⟩⟩
     | false=>exact ⟨[x,y],.cons ra (.cons rb .nil),rfl,⟨x,[y],rfl,hx,y,[],rfl,hy,rfl⟩⟩
 ·exact ⟨.ref D,_,I.laid (t':=s.toks) kp hD (show ObjOk X.prog X.w _ h' _ (.lst ys) from ⟨by omega,out,c,vy,e⟩),rfl,q D ys (I.hok.fresh hD) ry⟩
end
end L2
namespace L2
open PySem PySem.Spec PyProof.Rows
def Lc (C:Addr)(d:Option Addr)(u:Addr):Obj:={ cls:=.ref C,dict:=d,data:=.fields #[.ref u,.none,.none,.none,.bool false,.none] }
def LL (a C:Addr)(d:Option Addr)(u:Addr):HO:=.ext fun h=>h.get? a=some (Lc C d u)
end L2
namespace Ca
open Cv
def rv (a:Nat)(f:Nat->Int):Nat->Int:=fun j=>if j<=a then f (a-j) else 0
theorem Ii {f g:Nat->Int}{a b i:Nat}(hf:∀ j,a<j->f j=0)(hg:∀ j,b<j->g j=0)(hi:i<=a+b):cv f g (a+b-i)=cv (rv a f) (rv b g) i:=by
 have h1:tm f g (a+1) (a+b-i)=cv f g (a+b-i):=vj fun j hj=>hf j (by omega);have h2:tm (rv a f) (rv b g) (a+1) i=cv (rv a f) (rv b g) i:=vj fun j hj=>if_neg (by omega);rw [← h1,← h2];unfold tm;rw [DX (fun j=>if j<=i then rv a f j*rv b g (i-j) else 0)];refine sW fun j hj=>?_;show (if j<=a+b-i then f j*g (a+b-i-j) else 0)=if a+1-1-j<=i then rv a f (a+1-1-j)*rv b g (i-(a+1-1-j)) else 0;have e1:rv a f (a+1-1-j)=f j:=by
  unfold rv;rw [if_pos (by omega),show a-(a+1-1-j)=j by omega]
 rw [e1];by_cases c:a+1-1-j<=i
 ·rw [if_pos c];unfold rv;by_cases d:i-(a+1-1-j)<=b
  ·rw [if_pos d,if_pos (by omega),show b-(i-(a+1-1-j))=a+b-i-j by omega]
  ·rw [if_neg d,if_neg (by omega),bw]
 ·rw [if_neg c,hg (a+b-i-j) (by omega),bw];split <;> rfl
theorem yR {f:Nat->Int}{s:Nat}(hf:∀ j,s<j->f j=0):∀ k j,k*s<j->pw f k j=0
 | 0,j,h=>if_neg (by omega)
 | k+1,j,h=>by
  rw [bo] at h;exact tX (a:=k*s+1) (b:=s+1) (fun i hi=>yR hf k i (by omega)) (fun i hi=>hf i (by omega)) (by omega)
theorem Eh {f:Nat->Int}{s:Nat}(hf:∀ j,s<j->f j=0):∀ k i,i<=k*s->pw f k (k*s-i)=pw (rv s f) k i
 | 0,i,h=>by
  rw [show i=0 by omega];show pw f 0 (0*s-0)=_;rw [gQ];rfl
 | k+1,i,h=>by
  show cv (pw f k) f ((k+1)*s-i)=cv (pw (rv s f) k) (rv s f) i;rw [bo] at h ⊢;rw [Ii (fun j hj=>yR hf k j hj) hf h];refine AI (fun j hj=>?_) fun _ _=>rfl;unfold rv;by_cases c:j<=k*s
  ·rw [if_pos c];exact Eh hf k j c
  ·rw [if_neg c];exact (yR (s:=s) (fun j hj=>if_neg (by omega)) k j (by omega)).symm
theorem HD {f g:Nat->Int}{n:Nat}(h:∀ j,j<=n->f j=g j):∀ k j,j<=n->pw f k j=pw g k j
 | 0,_,_=>rfl
 | k+1,j,hj=>AI (fun i hi=>HD h k i (by omega)) fun i hi=>h i (by omega)
theorem yS (f:Nat->Int)(c:Int):∀ k j,pw (fun i=>f i*c^i) k j=pw f k j*c^j
 | 0,j=>by
  show (if j=0 then (1:Int) else 0)=(if j=0 then 1 else 0)*c^j;split
  ·rw [‹j=0›,aT,bh]
  ·rw [aL]
 | k+1,j=>by
  show cv (pw (fun i=>f i*c^i) k) (fun i=>f i*c^i) j=cv (pw f k) f j*c^j;unfold cv;rw [← uy];refine sW fun i hi=>?_;rw [yS f c k i];have:c^j=c^i*c^(j-i):=by rw [← cQ,show i+(j-i)=j by omega]
  rw [this];grind
theorem Eg (f:Nat->Int)(c:Int):∀ k j,pw (fun i=>f i*c) k j=pw f k j*c^k
 | 0,j=>by rw [aT,bh];rfl
 | k+1,j=>by
  show cv (pw (fun i=>f i*c) k) (fun i=>f i*c) j=cv (pw f k) f j*c^(k+1);unfold cv;rw [← uy];refine sW fun i hi=>?_;rw [Eg f c k i,aI];grind
end Ca
namespace Ca
open Cv
theorem Ei (g:Nat->Int):∀ k,pw g k=Pc.cp g k
 | 0=>rfl
 | k+1=>by show cv (pw g k) g=_;rw [Ei g k];rfl
end Ca
namespace Pc
open Cv
theorem BL {f g:Nat->Int}{a b:Nat}(hf:∀ j,a<j->f j=0)(hg:∀ j,b<j->g j=0):cv f g (a+b)=f a*g b:=by
 have:=Ca.Ii (i:=0) hf hg (aC _);rw [bZ,Ca.BN] at this;rw [this];unfold Ca.rv;rw [if_pos (aC _),if_pos (aC _),bZ,bZ]
theorem BO {g:Nat->Int}{d:Nat}(hg:∀ j,d<j->g j=0):∀ n,cp g n (n*d)=g d^n
 | 0=>by rw [gQ,aT];rfl
 | n+1=>by
  rw [bo];show cv (cp g n) g (n*d+d)=_;rw [BL (fun j hj=>zA (m:=d+1) (fun k hk=>hg k (by omega)) n j (by show n*d+1<=j;omega)) hg,BO hg n,aI]
theorem Of.deg_eq {P G R:List Int}{B U C:Int}(hB:0<B)(hU:0<U)(h:Of P B G U R C){n d:Nat}(lp:P.length=n+1)(lg:G.length=d+1)(d1:1<=d)(tp:P.getD n 0≠0)(tg:G.getD d 0≠0):R.length=n*d+1:=by
 have up:=h.deg hB hU;rw [lp,lg] at up;have up':R.length<=n*d+1:=up;rcases ao (n*d) R.length with c | c
 ·omega
 ·exfalso;have e:=h.2 (n*d);have z:R.getD (n*d) 0=0:=by
   rw [ac,br c];rfl
  rw [z,aL,lp] at e;have hg:∀ k,d<k->fn G k=0:=fun k hk=>sT (by omega);have p0:pc (fn P) (fn G) U n (n*d)=0:=by
   cases n with
   | zero=>rfl
   | succ n=>exact xb (m:=d+1) (fun k hk=>hg k (by omega)) (n+1) _ (by show n*d+1<=(n+1)*d;rw [bo];omega)
  have e2:pc (fn P) (fn G) U (n+1) (n*d)=fn P n*fn G d^n*U:=by
   show (pc (fn P) (fn G) U n (n*d)+fn P n*cp (fn G) n (n*d))*U=_;rw [p0,cJ,BO hg]
  rw [e2] at e;have c0:=h.1.pos;have:fn P n*fn G d^n*U*C≠0:=bT (bT (bT tp (cH tg)) (aA hU)) (aA c0);exact this e.symm
end Pc
namespace Ch
open L2 Cv Hv Pc Qp
abbrev Pl:=List Int×Int
def ld (c:Pl):Rat:=q c.1 c.2 (c.1.length-1)
theorem Cy {P1 G S:List Int}{B U D:Int}(f1:Po.Fm P1 B)(f2:Po.Fm G U)(l2:G.length=2)(g1:G.getD 1 0≠0)(h3:3<=P1.length)(o:Of P1 B G U S D):S.length=P1.length/\ld (S,D)=ld (P1,B)*q G U 1^(P1.length-1):=by
 obtain ⟨a,b⟩:=KW f1 f2 l2 (by intro e;rw [e] at h3;simp at h3) g1 o;refine ⟨a,?_⟩;show q S D (S.length-1)=_;rw [a];exact b
end Ch
namespace Ch
open L2 Cv Hv Pc Qp
theorem xE {P1 G S:List Int}{B U D:Int}(l1:P1.length=2)(n1:P1.getD 1 0≠0)(f1:Po.Fm P1 B)(f2:Po.Fm G U)(h3:3<=G.length)(o:Of P1 B G U S D):S.length=G.length/\ld (S,D)=q P1 B 1*ld (G,U):=by
 have hB:=f1.pos;have hU:=f2.pos;have hD:=o.1.pos;have hW:=az hB hU;have t:=o.two l1 hU;have d0':∀ k,1<=k->d0 k=0:=fun k hk=>by show (if k=0 then (1:Int) else 0)=0;rw [if_neg (by omega)]
 have qk:∀ k,1<=k->q S D k=q P1 B 1*q G U k:=fun k hk=>by
  have e:=Ak (f:=fun k=>P1.getD 0 0*d0 k*U+P1.getD 1 0*G.getD k 0) hD (aA hW) t k;rw [e,d0' k hk];have n1:=sQ hB;have n2:=sQ hU;unfold q;simp only [aB,e6];have z:((0:Int):Rat)=0:=rfl;rw [z];grind
 have ql:ld (G,U)≠0:=t9 (P:=G) (B:=U) f2 (by intro e;rw [e] at h3;simp at h3);have qp:q P1 B 1≠0:=by
  unfold q;have a:=tO n1;have b:=sQ hB;generalize ((P1.getD 1 0:Int):Rat)=x at *;intro z;grind
 have len:S.length=G.length:=by
  have l1':S.length<=G.length:=tQ o.1 hW t fun k hk=>by
   rw [d0' k (by omega)];have:G.getD k 0=0:=sT hk;rw [this];simp
  have l2:G.length-1<S.length:=by
   rcases ao (G.length-1) S.length with z | z
   ·exact z
   ·have e:=qk (G.length-1) (by omega);rw [tU z] at e;rcases cw.mp e.symm with w | w
    ·exact absurd w qp
    ·exact absurd w ql
  omega
 refine ⟨len,?_⟩;show q S D (S.length-1)=_;rw [len];exact qk _ (by omega)
end Ch
namespace Dp
open PySem L2
abbrev St:=L2.St
def Fl (H:Hp)(f:Addr):Prop:=∃ (l:Addr) (ns:List Int) (i c a b:Int),H f=some (.lst [.ref l,.int i,.int c,.int a,.int b])/\H l=some (.lst (ns.map V.int))/\ns.length<=63/\0<=i/\i<=(ns.length:Int)/\0<=c/\0<=a/\a<2147483647
theorem Fl.same {H H':Hp}{f:Addr}(F:Fl H f)(e:Same H H'):Fl H' f:=by
 obtain ⟨l,ns,i,c,a,b,h1,h2,h⟩:=F;exact ⟨l,ns,i,c,a,b,e _ _ h1,e _ _ h2,h⟩
theorem Fl.lst {H:Hp}{f:Addr}(F:Fl H f):∃ xs,H f=some (.lst xs):=by
 obtain ⟨l,ns,i,c,a,b,h1,_⟩:=F;exact ⟨_,h1⟩
inductive D where
 | non | bl (b:Bool) | int (i:Int) | str (x:Str) | tup (l:List D) | lst (l:List D) | fl
  | exn (C:Addr) (x:Str) (l:List D)
def XO (H:Hp)(a C:Addr)(x:Str)(us:List V):Prop:=(us=[]/\∃ u,H a=some (LL a C none u))\/∃ dx u y,us=[y]/\H a=some (LL a C (some dx) u)/\H dx=some (.xd [(x,y)])
mutual
def Rp (K:Frag)(f:Addr)(O:List Addr)(H:Hp):D->V->Prop
 | .non,v=>v = .non
 | .bl b,v=>v = .bl b
 | .int i,v=>v = .int i
 | .str x,v=>v = .str x
 | .tup l,v=>∃ a xs,v = .ref a/\SqT K H a xs/\Rps K f O H l xs
 | .lst l,v=>∃ a xs,v = .ref a/\a ∉ O/\H a=some (.lst xs)/\Rps K f O H l xs
 | .fl,v=>v = .ref f
 | .exn C x l,v=>∃ a us,v = .ref a/\XO H a C x us/\Rps K f O H l us
def Rps (K:Frag)(f:Addr)(O:List Addr)(H:Hp):List D->List V->Prop
 | [],vs=>vs=[]
 | d::ds,vs=>∃ v r,vs=v::r/\Rp K f O H d v/\Rps K f O H ds r
end
structure Ex (f:Addr)(H H':Hp):Prop where
 sm:Sm f H H'
 fl:Fl H' f
theorem Ex.refl {f:Addr}{H:Hp}(h:Fl H f):Ex f H H:=⟨Sm.refl H,h⟩
theorem Ex.trans {f:Addr}{H H1 H2:Hp}(a:Ex f H H1)(b:Ex f H1 H2):Ex f H H2:=⟨a.sm.trans b.sm,b.fl⟩
theorem Ex.new {f p:Addr}{H:Hp}(F:Fl H f)(h:H p=none)(o:HO):Ex f H (tN H p o):=⟨Sm.new h o,F.same (Same.new h o)⟩
variable {K:Frag}{f:Addr}{O O':List Addr}{H H':Hp}
def Kp (O:List Addr)(H H':Hp):Prop:=∀ b o,b ∉ O->H b=some o->H' b=some o
theorem Ex.kp (e:Ex f H H')(h:f∈O):Kp O H H':=fun b o n q=>e.sm.app b o (fun z=>n (z ▸ h)) q
theorem _root_.L2.SqT.kp {a:Addr}{xs:List V}(e:Kp O H H')(hO:∀ b∈O,∃ xs,H b=some (.lst xs))(h:SqT K H a xs):SqT K H' a xs:=by
 rcases h with (h | ⟨o,h⟩) | h
 ·refine .inl (.inl (e a _ (fun z=>?_) h));obtain ⟨xs,q⟩:=hO a z;rw [q] at h;cases h
 ·refine .inl (.inr ⟨o,e a _ (fun z=>?_) h⟩);obtain ⟨xs,q⟩:=hO a z;rw [q] at h;cases h
 ·exact .inr h
theorem XO.kp {a C:Addr}{x:Str}{us:List V}(e:Kp O H H')(hO:∀ b∈O,∃ xs,H b=some (.lst xs))(h:XO H a C x us):XO H' a C x us:=by
 rcases h with ⟨e1,u,h⟩ | ⟨dx,u,y,e1,h,hd⟩
 ·refine .inl ⟨e1,u,e a _ (fun z=>?_) h⟩;obtain ⟨xs,q⟩:=hO a z;rw [q] at h;unfold LL at h;cases h
 ·refine .inr ⟨dx,u,y,e1,e a _ (fun z=>?_) h,e dx _ (fun z=>?_) hd⟩
  ·obtain ⟨xs,q⟩:=hO a z;rw [q] at h;unfold LL at h;cases h
  ·obtain ⟨xs,q⟩:=hO dx z;rw [q] at hd;cases hd
mutual
theorem Rp.kp (e:Kp O H H')(hO:∀ b∈O,∃ xs,H b=some (.lst xs)):∀ {d:D} {v:V},Rp K f O H d v->Rp K f O H' d v
 | .non,_,h=>h
 | .bl _,_,h=>h
 | .int _,_,h=>h
 | .str _,_,h=>h
 | .fl,_,h=>h
 | .tup l,v,h=>by
  obtain ⟨a,xs,e1,h1,h2⟩:=h;exact ⟨a,xs,e1,h1.kp e hO,Rps.kp e hO h2⟩
 | .lst l,v,h=>by
  obtain ⟨a,xs,e1,n,h1,h2⟩:=h;exact ⟨a,xs,e1,n,e a _ n h1,Rps.kp e hO h2⟩
 | .exn C x l,v,h=>by
  obtain ⟨a,us,e1,h1,h2⟩:=h;exact ⟨a,us,e1,h1.kp e hO,Rps.kp e hO h2⟩
theorem Rps.kp (e:Kp O H H')(hO:∀ b∈O,∃ xs,H b=some (.lst xs)):∀ {ds:List D} {vs:List V},Rps K f O H ds vs->Rps K f O H' ds vs
 | [],_,h=>h
 | d::ds,_,h=>by
  obtain ⟨v,r,e1,h1,h2⟩:=h;exact ⟨v,r,e1,Rp.kp e hO h1,Rps.kp e hO h2⟩
end
mutual
theorem Rp.less (e:∀ a∈O',a∈O):∀ {d:D} {v:V},Rp K f O H d v->Rp K f O' H d v
 | .non,_,h=>h
 | .bl _,_,h=>h
 | .int _,_,h=>h
 | .str _,_,h=>h
 | .fl,_,h=>h
 | .tup l,v,h=>by
  obtain ⟨a,xs,e1,h1,h2⟩:=h;exact ⟨a,xs,e1,h1,Rps.less e h2⟩
 | .lst l,v,h=>by
  obtain ⟨a,xs,e1,n,h1,h2⟩:=h;exact ⟨a,xs,e1,fun z=>n (e a z),h1,Rps.less e h2⟩
 | .exn C x l,v,h=>by
  obtain ⟨a,us,e1,h1,h2⟩:=h;exact ⟨a,us,e1,h1,Rps.less e h2⟩
theorem Rps.less (e:∀ a∈O',a∈O):∀ {ds:List D} {vs:List V},Rps K f O H ds vs->Rps K f O' H ds vs
 | [],_,h=>h
 | d::ds,_,h=>by
  obtain ⟨v,r,e1,h1,h2⟩:=h;exact ⟨v,r,e1,Rp.less e h1,Rps.less e h2⟩
end
theorem Rps.len:∀ {ds:List D} {vs:List V},Rps K f O H ds vs->vs.length=ds.length
 | [],_,h=>by rw [show _=[] from h];rfl
 | d::ds,_,h=>by
  obtain ⟨v,r,e1,h1,h2⟩:=h;rw [e1,bg,bg,Rps.len h2]
theorem Rps.get:∀ {ds:List D} {vs:List V} {i:Nat} {d:D},Rps K f O H ds vs->ds[i]? = some d->∃ v,vs[i]? = some v/\Rp K f O H d v
 | [],_,_,_,_,e=>by simp at e
 | d0::ds,_,i,d,h,e=>by
  obtain ⟨v,r,e1,h1,h2⟩:=h;subst e1;cases i with
  | zero =>
   simp at e;subst e;exact ⟨v,rfl,h1⟩
  | succ i =>
   obtain ⟨w,hw,h⟩:=Rps.get h2 (i:=i) (d:=d) (by simpa using e);exact ⟨w,by simpa using hw,h⟩
theorem Rps.append:∀ {ds es:List D} {vs ws:List V},Rps K f O H ds vs->Rps K f O H es ws->Rps K f O H (ds++es) (vs++ws)
 | [],_,_,_,h,t=>by rw [show _=[] from h];exact t
 | d::ds,_,_,_,h,t=>by
  obtain ⟨v,r,e1,h1,h2⟩:=h;subst e1;exact ⟨v,_,rfl,h1,Rps.append h2 t⟩
theorem Rps.take:∀ {ds:List D} {vs:List V} (n:Nat),Rps K f O H ds vs->Rps K f O H (ds.take n) (vs.take n)
 | _,_,0,_=>by rw [fc,fc];rfl
 | [],_,n+1,h=>by rw [show _=[] from h];rfl
 | d::ds,_,n+1,h=>by
  obtain ⟨v,r,e1,h1,h2⟩:=h;subst e1;exact ⟨v,_,rfl,h1,Rps.take n h2⟩
theorem Rps.drop:∀ {ds:List D} {vs:List V} (n:Nat),Rps K f O H ds vs->Rps K f O H (ds.drop n) (vs.drop n)
 | _,_,0,h=>h
 | [],_,n+1,h=>by rw [show _=[] from h];rfl
 | d::ds,_,n+1,h=>by
  obtain ⟨v,r,e1,h1,h2⟩:=h;subst e1;exact Rps.drop n h2
theorem Rps.set {d:D}{v:V}(q:Rp K f O H d v):∀ {ds:List D} {vs:List V} (n:Nat),Rps K f O H ds vs->Rps K f O H (ds.set n d) (vs.set n v)
 | [],_,n,h=>by rw [show _=[] from h];rfl
 | d0::ds,_,0,h=>by
  obtain ⟨w,r,e1,h1,h2⟩:=h;subst e1;exact ⟨v,_,rfl,q,h2⟩
 | d0::ds,_,n+1,h=>by
  obtain ⟨w,r,e1,h1,h2⟩:=h;subst e1;exact ⟨w,_,rfl,h1,Rps.set q n h2⟩
theorem Rps.reverse:∀ {ds:List D} {vs:List V},Rps K f O H ds vs->Rps K f O H ds.reverse vs.reverse
 | [],_,h=>by rw [show _=[] from h];rfl
 | d::ds,_,h=>by
  obtain ⟨v,r,e1,h1,h2⟩:=h;subst e1;rw [dU,dU];exact Rps.append (Rps.reverse h2) ⟨v,[],rfl,h1,rfl⟩
theorem Rps.flat {ds:List D}{vs:List V}(h:Rps K f O H ds vs):∀ n,Rps K f O H (List.replicate n ds).flatten (List.replicate n vs).flatten
 | 0=>rfl
 | n+1=>by
  rw [bB,bB,cF,cF];exact Rps.append h (Rps.flat h n)
theorem Rps.bls:∀ {bs:List Bool} {vs:List V},Rps K f O H (bs.map D.bl) vs->vs=bs.map V.bl
 | [],_,h=>h
 | b::bs,_,h=>by
  obtain ⟨v,r,e1,h1,h2⟩:=h;rw [e1,show v=_ from h1,Rps.bls h2];rfl
theorem Rps.ints:∀ {bs:List Int} {vs:List V},Rps K f O H (bs.map D.int) vs->vs=bs.map V.int
 | [],_,h=>h
 | b::bs,_,h=>by
  obtain ⟨v,r,e1,h1,h2⟩:=h;rw [e1,show v=_ from h1,Rps.ints h2];rfl
inductive SD where
 | no | val (d:D) | own (l:List D)
abbrev SS:=List SD
structure SlD (K:Frag)(f:Addr)(O:List Addr)(σ:St)(H:Hp)(ss:SS):Prop where
 fl:Fl H f
 fO:f∈O
 al:∀ a∈O,∃ xs,H a=some (.lst xs)
 lO:∀ l r,H f=some (.lst (.ref l::r))->l ∉ O
 len:ss.length=σ.length
 val:∀ (i:Nat) (d:D),ss[i]? = some (SD.val d)->∃ v,σ[i]? = some (some v)/\Rp K f O H d v
 own:∀ (i:Nat) (l:List D),ss[i]? = some (SD.own l)->∃ a xs,σ[i]? = some (some (V.ref a))/\a∈O/\a≠f/\H a=some (.lst xs)/\Rps K f O H l xs
variable {σ:St}{ss:SS}
theorem SlD.ex (R:SlD K f O σ H ss)(e:Ex f H H'):SlD K f O σ H' ss where
 fl:=e.fl
 fO:=R.fO
 al:=fun a h=>by
  by_cases z:a=f
  ·subst z;exact e.fl.lst
  ·obtain ⟨xs,q⟩:=R.al a h;exact ⟨xs,e.sm.app a _ z q⟩
 lO:=fun l r h=>by
  obtain ⟨l0,ns,i,c,a,b,h1,_⟩:=R.fl;obtain ⟨r',h2⟩:=e.sm.key _ _ h1;rw [h2] at h;cases h;exact R.lO _ _ h1
 len:=R.len
 val:=fun i d h=>by
  obtain ⟨v,h1,h2⟩:=R.val i d h;exact ⟨v,h1,h2.kp (e.kp R.fO) R.al⟩
 own:=fun i l h=>by
  obtain ⟨a,xs,h1,h2,h3,h4,h5⟩:=R.own i l h;exact ⟨a,xs,h1,h2,h3,e.sm.app a _ h3 h4,h5.kp (e.kp R.fO) R.al⟩
theorem SlD.up (R:SlD K f O σ H ss)(e:Ex f H H'){d:D}{v:V}(h:Rp K f O H d v):Rp K f O H' d v:=h.kp (e.kp R.fO) R.al
theorem SlD.ups (R:SlD K f O σ H ss)(e:Ex f H H'){d:List D}{v:List V}(h:Rps K f O H d v):Rps K f O H' d v:=h.kp (e.kp R.fO) R.al
theorem SlD.new (R:SlD K f O σ H ss){p:Addr}(h:H p=none)(o:HO):Ex f H (tN H p o):=Ex.new R.fl h o
theorem SlD.nO (R:SlD K f O σ H ss){p:Addr}(h:H p=none):p ∉ O:=fun z=>by
 obtain ⟨xs,q⟩:=R.al p z;rw [h] at q;cases q
theorem SlD.lst (R:SlD K f O σ H ss){p:Addr}(h:H p=none){ds:List D}{xs:List V}(q:Rps K f O H ds xs):Rp K f O (tN H p (.lst xs)) (.lst ds) (.ref p) :=
 ⟨p,xs,rfl,R.nO h,s9,R.ups (R.new h _) q⟩
theorem SlD.tup (R:SlD K f O σ H ss){p:Addr}(h:H p=none){ds:List D}{xs:List V}(q:Rps K f O H ds xs):Rp K f O (tN H p (.tup xs)) (.tup ds) (.ref p) :=
 ⟨p,xs,rfl,SqT.of s9,R.ups (R.new h _) q⟩
structure TEd where
 run:SS->(D->Prop)->Prop
 mono:∀ {ss Q Q'},(∀ d,Q d->Q' d)->run ss Q->run ss Q'
structure TTd where
 run:SS->(Bool->Prop)->Prop
 mono:∀ {ss Q Q'},(∀ d,Q d->Q' d)->run ss Q->run ss Q'
structure TAd where
 run:SS->(List D->Prop)->Prop
 mono:∀ {ss Q Q'},(∀ d,Q d->Q' d)->run ss Q->run ss Q'
structure TOd where
 run:SS->(Option Int->Prop)->Prop
 mono:∀ {ss Q Q'},(∀ d,Q d->Q' d)->run ss Q->run ss Q'
structure TGd where
 tg:List Nat
 run:D->SS->(SS->Prop)->Prop
 mono:∀ {d ss Q Q'},(∀ d,Q d->Q' d)->run d ss Q->run d ss Q'
def LE (K:Frag)(t:TEd):TE:=fun σ H Q=>∃ f O ss,SlD K f O σ H ss/\t.run ss fun d=>∀ v H',Ex f H H'->Rp K f O H' d v->Q v H'
def LT (K:Frag)(t:TTd):TT:=fun σ H Q=>∃ f O ss,SlD K f O σ H ss/\t.run ss fun d=>∀ H',Ex f H H'->Q d H'
def LA (K:Frag)(t:TAd):TA:=fun σ H Q=>∃ f O ss,SlD K f O σ H ss/\t.run ss fun ds=>∀ vs H',Ex f H H'->Rps K f O H' ds vs->Q vs H'
def LO (K:Frag)(t:TOd):TO:=fun σ H Q=>∃ f O ss,SlD K f O σ H ss/\t.run ss fun d=>∀ H',Ex f H H'->Q d H'
abbrev MN:=List D->(D->Prop)->Prop
def BY (K:Frag)(n:Nat)(sp:MN):Sp:=fun vs H Q _=>vs.length=n/\∃ f O ds,Fl H f/\f∈O/\(∀ a∈O,∃ xs,H a=some (.lst xs))/\(∀ l r,H f=some (.lst (.ref l::r))->l ∉ O)/\Rps K f O H ds vs/\sp ds fun d=>∀ v H',Ex f H H'->Rp K f O H' d v->Q v H'
variable {X:Cx}
theorem _root_.L2.PE.weak {e:Expr}{t t':TE}(h:PE X e t)(w:∀ σ H Q,t' σ H Q->t σ H Q):PE X e t':=fun pins s σ H Q I q=>h pins s σ H Q I (w σ H Q q)
theorem _root_.L2.PT.weak {e:Expr}{t t':TT}(h:PT X e t)(w:∀ σ H Q,t' σ H Q->t σ H Q):PT X e t':=fun pins s σ H Q I q=>h pins s σ H Q I (w σ H Q q)
theorem _root_.L2.PA.weak {e:List Expr}{t t':TA}(h:PA X e t)(w:∀ σ H Q,t' σ H Q->t σ H Q):PA X e t':=fun pos pins s σ H Q I q=>h pos pins s σ H Q I (w σ H Q q)
theorem _root_.L2.PO.weak {e:Option Expr}{t t':TO}(h:PO X e t)(w:∀ σ H Q,t' σ H Q->t σ H Q):PO X e t':=fun pins s σ H Q I q=>h pins s σ H Q I (w σ H Q q)
def iI (i:Nat):TEd:=⟨fun ss Q=>match ss[i]? with | some (SD.val d)=>Q d | _=>False,fun {ss Q Q'} h q=>by
 revert q;split
 ·exact h _
 ·exact id⟩
theorem iI.ok {i:Nat}{e:Expr}(h:PE X e (vz i)):PE X e (LE X.K (iI i)):=h.weak fun σ H Q ⟨f,O,ss,R,q⟩=>by
 have q:(match ss[i]? with | some (SD.val d)=>(∀ v H',Ex f H H'->Rp X.K f O H' d v->Q v H') | _=>False):=q;revert q;split
 ·rename_i d e;intro q;obtain ⟨v,h1,h2⟩:=R.val i d e;exact ⟨v,h1,q v H (Ex.refl R.fl) h2⟩
 ·exact False.elim
def dC (d:D):TEd:=⟨fun _ Q=>Q d,fun h q=>h _ q⟩
theorem dC.ok {e:Expr}{d:D}{v:V}(h:PE X e (tC v))(r:∀ f O H,Rp X.K f O H d v):PE X e (LE X.K (dC d)):=h.weak fun σ H Q ⟨f,O,ss,R,q⟩=>q v H (Ex.refl R.fl) (r f O H)
abbrev OD:=D->D->(D->Prop)->Prop
def d2 (o:OD)(m:∀ {x y Q Q'},(∀ d,Q d->Q' d)->o x y Q->o x y Q')(a b:TEd):TEd:=⟨fun ss Q=>a.run ss fun x=>b.run ss fun y=>o x y Q,fun h q=>a.mono (fun x q=>b.mono (fun y q=>m h q) q) q⟩
def RD (K:Frag)(r:R2)(o:OD):Prop:=∀ (f:Addr) (O:List Addr) (σ:St) (ss:SS) (H:Hp) (dx dy:D) (x y:V) (Q:VK),SlD K f O σ H ss->Rp K f O H dx x->Rp K f O H dy y->o dx dy (fun d=>∀ v H',Ex f H H'->Rp K f O H' d v->Q v H')->r x y H Q
theorem d2.ok {e:Expr}{a b:TEd}{r:R2}{o:OD}{m}(hr:RD X.K r o)(h:PE X e (Kl r (LE X.K a) (LE X.K b))):PE X e (LE X.K (d2 o m a b)):=h.weak fun σ H Q ⟨f,O,ss,R,q⟩=>by
 refine ⟨f,O,ss,R,a.mono (fun dx q v1 H1 e1 r1=>?_) q⟩;refine ⟨f,O,ss,R.ex e1,b.mono (fun dy q v2 H2 e2 r2=>?_) q⟩;exact hr f O σ ss H2 dx dy v1 v2 Q ((R.ex e1).ex e2) ((R.ex e1).up e2 r1) r2 (m (fun d q v H' e3 r3=>q v H' (e1.trans (e2.trans e3)) r3) q)
end Dp
namespace Dp
open PySem L2
variable {K:Frag}{f:Addr}{O O':List Addr}{H H':Hp}{X:Cx}{σ:St}{ss:SS}
mutual
def D.pl:D->Bool
 | .int _=>true | .str _=>true | .non=>true | .bl _=>false | .fl=>false | .exn _ _ _=>false
 | .tup ds=>D.pls ds
 | .lst ds=>D.pls ds
def D.pls:List D->Bool
 | []=>true
 | d::ds=>D.pl d && D.pls ds
end
mutual
def D.dp:D->Nat
 | .tup ds=>D.dps ds+1
 | .lst ds=>D.dps ds+1
 | .int _=>0 | .str _=>0 | .non=>0 | .bl _=>0 | .fl=>0 | .exn _ _ _=>0
def D.dps:List D->Nat
 | []=>0
 | d::ds=>max (D.dp d) (D.dps ds)
end
mutual
def D.dv:D->DV
 | .int i=>.int i | .str x=>.str x | .non=>.non | .bl b=>.bl b | .fl=>.non | .exn _ _ _=>.non
 | .tup ds=>.tup (D.dvs ds)
 | .lst ds=>.lst (D.dvs ds)
def D.dvs:List D->List DV
 | []=>[]
 | d::ds=>D.dv d::D.dvs ds
end
mutual
theorem D.dv_pl:∀ {d:D},d.pl=true->d.dv.pl=true
 | .int _,_=>rfl
 | .str _,_=>rfl
 | .non,_=>rfl
 | .bl _,h=>h
 | .fl,h=>by cases h
 | .exn _ _ _,h=>by cases h
 | .tup ds,h=>D.dvs_pl (ds:=ds) h
 | .lst ds,h=>D.dvs_pl (ds:=ds) h
theorem D.dvs_pl:∀ {ds:List D},D.pls ds=true->DV.pls (D.dvs ds)=true
 | [],_=>rfl
 | d::ds,h=>by
  have h:=ay.mp (show (d.pl && D.pls ds)=true from h);exact ay.mpr ⟨D.dv_pl h.1,D.dvs_pl h.2⟩
end
mutual
theorem D.dv_dp:∀ {d:D},d.dv.dp=d.dp
 | .int _=>rfl
 | .str _=>rfl
 | .non=>rfl
 | .bl _=>rfl
 | .fl=>rfl
 | .exn _ _ _=>rfl
 | .tup ds=>congrArg (· + 1) (D.dvs_dp (ds:=ds))
 | .lst ds=>congrArg (· + 1) (D.dvs_dp (ds:=ds))
theorem D.dvs_dp:∀ {ds:List D},DV.dps (D.dvs ds)=D.dps ds
 | []=>rfl
 | d::ds=>by
  show max (DV.dp d.dv) (DV.dps (D.dvs ds))=max d.dp (D.dps ds);rw [D.dv_dp,D.dvs_dp]
end
mutual
theorem D.dv_inj:∀ {d e:D},d.pl=true->e.pl=true->d.dv=e.dv->d=e
 | .int _,e,_,h,q=>by cases e <;> first | (cases q;rfl) | (cases q;done) | cases h
 | .str _,e,_,h,q=>by cases e <;> first | (cases q;rfl) | (cases q;done) | cases h
 | .non,e,_,h,q=>by cases e <;> first | rfl | (cases q;done) | cases h
 | .bl _,_,h,_,_=>by cases h
 | .fl,_,h,_,_=>by cases h
 | .exn _ _ _,_,h,_,_=>by cases h
 | .tup ds,e,h1,h2,q=>by
  cases e with
  | tup es =>
   have q:DV.tup (D.dvs ds)=DV.tup (D.dvs es):=q;injection q with q;rw [D.dvs_inj h1 h2 q]
  | int=>cases q
  | str=>cases q
  | non=>cases q
  | bl=>cases h2
  | fl=>cases h2
  | exn=>cases h2
  | lst=>cases q
 | .lst ds,e,h1,h2,q=>by
  cases e with
  | lst es =>
   have q:DV.lst (D.dvs ds)=DV.lst (D.dvs es):=q;injection q with q;rw [D.dvs_inj h1 h2 q]
  | int=>cases q
  | str=>cases q
  | non=>cases q
  | bl=>cases h2
  | fl=>cases h2
  | exn=>cases h2
  | tup=>cases q
theorem D.dvs_inj:∀ {ds es:List D},D.pls ds=true->D.pls es=true->D.dvs ds=D.dvs es->ds=es
 | [],[],_,_,_=>rfl
 | [],_::_,_,_,q=>by cases q
 | _::_,[],_,_,q=>by cases q
 | d::ds,e::es,h1,h2,q=>by
  have h1:=ay.mp (show (d.pl && D.pls ds)=true from h1);have h2:=ay.mp (show (e.pl && D.pls es)=true from h2);have q:d.dv::D.dvs ds=e.dv::D.dvs es:=q;injection q with q1 q2;rw [D.dv_inj h1.1 h2.1 q1,D.dvs_inj h1.2 h2.2 q2]
end
mutual
theorem Rp.rep:∀ {d:D} {v:V},d.pl=true->Rp K f O H d v->Rep K H d.dv v
 | .int _,_,_,h=>h
 | .str _,_,_,h=>h
 | .non,_,_,h=>h
 | .bl _,_,h,_=>by cases h
 | .fl,_,h,_=>by cases h
 | .exn _ _ _,_,h,_=>by cases h
 | .tup ds,_,p,h=>by
  obtain ⟨a,xs,e,h1,h2⟩:=h;exact ⟨a,xs,e,h1,Rps.rep p h2⟩
 | .lst ds,_,p,h=>by
  obtain ⟨a,xs,e,_,h1,h2⟩:=h;exact ⟨a,xs,e,SqL.of h1,Rps.rep p h2⟩
theorem Rps.rep:∀ {ds:List D} {vs:List V},D.pls ds=true->Rps K f O H ds vs->Reps K H (D.dvs ds) vs
 | [],_,_,h=>h
 | d::ds,_,p,h=>by
  have p:=ay.mp (show (d.pl && D.pls ds)=true from p);obtain ⟨v,r,e,h1,h2⟩:=h;exact ⟨v,r,e,Rp.rep p.1 h1,Rps.rep p.2 h2⟩
end
theorem D.pls_ints (ns:List Int):D.pls (ns.map D.int)=true:=by
 induction ns with
 | nil=>rfl
 | cons n ns ih=>exact ih
theorem OpR.or2 {g:Value->Value->Sem Value}{r r':R2}(h:OpR X g r)(h':OpR X g r'):OpR X g (fun x y H Q=>r x y H Q\/r' x y H Q):=fun pins s σ H x y v u Q I rx ry q=>q.elim (h pins s σ H x y v u Q I rx ry) (h' pins s σ H x y v u Q I rx ry)
def oAdd:OD
 | .int i,.int j,Q=>Q (.int (i+j))
 | .str a,.str b,Q=>a.length+b.length<=sizeLine/\Q (.str (a++b))
 | .lst a,.lst b,Q=>a.length+b.length<=sizeLine/\Q (.lst (a++b))
 | .tup a,.tup b,Q=>a.length+b.length<=sizeLine/\Q (.tup (a++b))
 | _,_,_=>False
def oSub:OD
 | .int i,.int j,Q=>Q (.int (i-j))
 | _,_,_=>False
def oMul:OD
 | .int i,.int j,Q=>CMulB i j/\Q (.int (i*j))
 | .lst a,.int k,Q => -(2^63)<=k/\k<2^63/\a.length*k.toNat<=sizeLine/\Q (.lst (List.replicate k.toNat a).flatten)
 | .tup a,.int k,Q=>a≠[]/\1<=k/\a.length*k.toNat<=100000/\Q (.tup (List.replicate k.toNat a).flatten)
 | _,_,_=>False
def oDiv:OD
 | .int i,.int j,Q=>uZ i j/\Q (.int (i.fdiv j))
 | _,_,_=>False
def oMod:OD
 | .int i,.int j,Q=>j≠0/\Q (.int (i.fmod j))
 | _,_,_=>False
def oPow:OD
 | .int i,.int j,Q=>FQ i j/\Q (.int (i^j.toNat))
 | _,_,_=>False
def oShl:OD
 | .int i,.int j,Q=>FQ i j/\Q (.int (i*2^j.toNat))
 | _,_,_=>False
def Bo:OD:=fun _ _ _=>False
def oBin:Operator->OD
 | .Add=>oAdd | .Sub=>oSub | .Mult=>oMul | .FloorDiv=>oDiv | .Mod=>oMod | .Pow=>oPow | .LShift=>oShl | _=>Bo
def oLt:OD
 | .int i,.int j,Q=>Q (.bl (decide (i<j)))
 | _,_,_=>False
def oLe:OD
 | .int i,.int j,Q=>Q (.bl (decide (i<=j)))
 | _,_,_=>False
def oGt:OD
 | .int i,.int j,Q=>Q (.bl (decide (j<i)))
 | _,_,_=>False
def oGe:OD
 | .int i,.int j,Q=>Q (.bl (decide (j<=i)))
 | _,_,_=>False
def oEq (neg:Bool):OD
 | .int i,.int j,Q=>Q (.bl (if neg then !decide (i=j) else decide (i=j)))
 | .bl i,.bl j,Q=>Q (.bl (if neg then !decide (i=j) else decide (i=j)))
 | .str i,.str j,Q=>Q (.bl (if neg then !decide (i=j) else decide (i=j)))
 | .tup a,.tup b,Q=>D.pls a=true/\D.pls b=true/\D.dps a<=60/\∀ k,(k=true↔a=b)->Q (.bl (if neg then !k else k))
 | .lst a,.lst b,Q=>neg=neg/\D.pls a=true/\D.pls b=true/\D.dps a<=60/\∀ k,(k=true↔a=b)->Q (.bl (if neg then !k else k))
 | _,_,_=>False
def oIs (neg:Bool):OD:=fun x y Q=>match y with
 | .non=>Q (.bl (match x with | .non => !neg | _=>neg))
 | _=>False
def oIn (neg:Bool):OD:=fun x y Q=>(∃ (i:Int) (ns:List Int),x = .int i/\(y = .lst (ns.map .int)\/y = .tup (ns.map .int))/\Q (.bl (if neg then !decide (i∈ns) else decide (i∈ns))))\/(∃ (i:Str) (ns:List Str),x = .str i/\(y = .lst (ns.map .str)\/y = .tup (ns.map .str))/\Q (.bl (if neg then !decide (i∈ns) else decide (i∈ns))))\/(∃ l,y = .lst l/\x.pl=true/\D.pls l=true/\D.dps l<=60/\∀ k:Bool,(k=true↔x∈l)->Q (.bl (if neg then !k else k)))
theorem oIn.mono {neg:Bool}:∀ {x y Q Q'},(∀ d,Q d->Q' d)->oIn neg x y Q->oIn neg x y Q':=fun h q=>q.imp (fun ⟨i,ns,e1,e2,q⟩=>⟨i,ns,e1,e2,h _ q⟩) (Or.imp (fun ⟨i,ns,e1,e2,q⟩=>⟨i,ns,e1,e2,h _ q⟩) fun ⟨l,e,a,b,c,q⟩=>⟨l,e,a,b,c,fun k hk=>h _ (q k hk)⟩)
def oCmp:CmpOp->OD
 | .Eq=>oEq false | .NotEq=>oEq true | .Lt=>oLt | .LtE=>oLe | .Gt=>oGt | .GtE=>oGe | .Is=>oIs false | .IsNot=>oIs true | .In=>oIn false | .NotIn=>oIn true
theorem oAdd.mono:∀ {x y Q Q'},(∀ d,Q d->Q' d)->oAdd x y Q->oAdd x y Q':=by intro x y Q Q' h;cases x <;> cases y <;> intro q <;> first | exact h _ q | exact q | exact ⟨q.1,h _ q.2⟩ | exact ⟨q.1,q.2.1,q.2.2.1,h _ q.2.2.2⟩ | exact ⟨q.1,q.2.1,q.2.2.1,fun k e=>h _ (q.2.2.2 k e)⟩ | exact ⟨q.1,q.2.1,q.2.2.1,q.2.2.2.1,fun k e=>h _ (q.2.2.2.2 k e)⟩
theorem oSub.mono:∀ {x y Q Q'},(∀ d,Q d->Q' d)->oSub x y Q->oSub x y Q':=by intro x y Q Q' h;cases x <;> cases y <;> intro q <;> first | exact h _ q | exact q | exact ⟨q.1,h _ q.2⟩ | exact ⟨q.1,q.2.1,q.2.2.1,h _ q.2.2.2⟩ | exact ⟨q.1,q.2.1,q.2.2.1,fun k e=>h _ (q.2.2.2 k e)⟩ | exact ⟨q.1,q.2.1,q.2.2.1,q.2.2.2.1,fun k e=>h _ (q.2.2.2.2 k e)⟩
theorem oMul.mono:∀ {x y Q Q'},(∀ d,Q d->Q' d)->oMul x y Q->oMul x y Q':=by intro x y Q Q' h;cases x <;> cases y <;> intro q <;> first | exact h _ q | exact q | exact ⟨q.1,h _ q.2⟩ | exact ⟨q.1,q.2.1,q.2.2.1,h _ q.2.2.2⟩ | exact ⟨q.1,q.2.1,q.2.2.1,fun k e=>h _ (q.2.2.2 k e)⟩ | exact ⟨q.1,q.2.1,q.2.2.1,q.2.2.2.1,fun k e=>h _ (q.2.2.2.2 k e)⟩
theorem oDiv.mono:∀ {x y Q Q'},(∀ d,Q d->Q' d)->oDiv x y Q->oDiv x y Q':=by intro x y Q Q' h;cases x <;> cases y <;> intro q <;> first | exact h _ q | exact q | exact ⟨q.1,h _ q.2⟩ | exact ⟨q.1,q.2.1,q.2.2.1,h _ q.2.2.2⟩ | exact ⟨q.1,q.2.1,q.2.2.1,fun k e=>h _ (q.2.2.2 k e)⟩ | exact ⟨q.1,q.2.1,q.2.2.1,q.2.2.2.1,fun k e=>h _ (q.2.2.2.2 k e)⟩
theorem oMod.mono:∀ {x y Q Q'},(∀ d,Q d->Q' d)->oMod x y Q->oMod x y Q':=by intro x y Q Q' h;cases x <;> cases y <;> intro q <;> first | exact h _ q | exact q | exact ⟨q.1,h _ q.2⟩ | exact ⟨q.1,q.2.1,q.2.2.1,h _ q.2.2.2⟩ | exact ⟨q.1,q.2.1,q.2.2.1,fun k e=>h _ (q.2.2.2 k e)⟩ | exact ⟨q.1,q.2.1,q.2.2.1,q.2.2.2.1,fun k e=>h _ (q.2.2.2.2 k e)⟩
theorem oPow.mono:∀ {x y Q Q'},(∀ d,Q d->Q' d)->oPow x y Q->oPow x y Q':=by intro x y Q Q' h;cases x <;> cases y <;> intro q <;> first | exact h _ q | exact q | exact ⟨q.1,h _ q.2⟩ | exact ⟨q.1,q.2.1,q.2.2.1,h _ q.2.2.2⟩ | exact ⟨q.1,q.2.1,q.2.2.1,fun k e=>h _ (q.2.2.2 k e)⟩ | exact ⟨q.1,q.2.1,q.2.2.1,q.2.2.2.1,fun k e=>h _ (q.2.2.2.2 k e)⟩
theorem oShl.mono:∀ {x y Q Q'},(∀ d,Q d->Q' d)->oShl x y Q->oShl x y Q':=by intro x y Q Q' h;cases x <;> cases y <;> intro q <;> first | exact q | exact ⟨q.1,h _ q.2⟩
theorem oBin.mono {op:Operator}:∀ {x y Q Q'},(∀ d,Q d->Q' d)->oBin op x y Q->oBin op x y Q':=by
 cases op;all_goals first | exact oAdd.mono | exact oSub.mono | exact oMul.mono | exact oDiv.mono | exact oMod.mono | exact oPow.mono | exact oShl.mono | exact fun _ q=>q
theorem oLt.mono:∀ {x y Q Q'},(∀ d,Q d->Q' d)->oLt x y Q->oLt x y Q':=by intro x y Q Q' h;cases x <;> cases y <;> intro q <;> first | exact h _ q | exact q | exact ⟨q.1,h _ q.2⟩ | exact ⟨q.1,q.2.1,q.2.2.1,h _ q.2.2.2⟩ | exact ⟨q.1,q.2.1,q.2.2.1,fun k e=>h _ (q.2.2.2 k e)⟩ | exact ⟨q.1,q.2.1,q.2.2.1,q.2.2.2.1,fun k e=>h _ (q.2.2.2.2 k e)⟩
theorem oLe.mono:∀ {x y Q Q'},(∀ d,Q d->Q' d)->oLe x y Q->oLe x y Q':=by intro x y Q Q' h;cases x <;> cases y <;> intro q <;> first | exact h _ q | exact q | exact ⟨q.1,h _ q.2⟩ | exact ⟨q.1,q.2.1,q.2.2.1,h _ q.2.2.2⟩ | exact ⟨q.1,q.2.1,q.2.2.1,fun k e=>h _ (q.2.2.2 k e)⟩ | exact ⟨q.1,q.2.1,q.2.2.1,q.2.2.2.1,fun k e=>h _ (q.2.2.2.2 k e)⟩
theorem oGt.mono:∀ {x y Q Q'},(∀ d,Q d->Q' d)->oGt x y Q->oGt x y Q':=by intro x y Q Q' h;cases x <;> cases y <;> intro q <;> first | exact h _ q | exact q | exact ⟨q.1,h _ q.2⟩ | exact ⟨q.1,q.2.1,q.2.2.1,h _ q.2.2.2⟩ | exact ⟨q.1,q.2.1,q.2.2.1,fun k e=>h _ (q.2.2.2 k e)⟩ | exact ⟨q.1,q.2.1,q.2.2.1,q.2.2.2.1,fun k e=>h _ (q.2.2.2.2 k e)⟩
theorem oGe.mono:∀ {x y Q Q'},(∀ d,Q d->Q' d)->oGe x y Q->oGe x y Q':=by intro x y Q Q' h;cases x <;> cases y <;> intro q <;> first | exact h _ q | exact q | exact ⟨q.1,h _ q.2⟩ | exact ⟨q.1,q.2.1,q.2.2.1,h _ q.2.2.2⟩ | exact ⟨q.1,q.2.1,q.2.2.1,fun k e=>h _ (q.2.2.2 k e)⟩ | exact ⟨q.1,q.2.1,q.2.2.1,q.2.2.2.1,fun k e=>h _ (q.2.2.2.2 k e)⟩
theorem oEq.mono {neg:Bool}:∀ {x y Q Q'},(∀ d,Q d->Q' d)->oEq neg x y Q->oEq neg x y Q':=by intro x y Q Q' h;cases x <;> cases y <;> intro q <;> first | exact h _ q | exact q | exact ⟨q.1,h _ q.2⟩ | exact ⟨q.1,q.2.1,q.2.2.1,h _ q.2.2.2⟩ | exact ⟨q.1,q.2.1,q.2.2.1,fun k e=>h _ (q.2.2.2 k e)⟩ | exact ⟨q.1,q.2.1,q.2.2.1,q.2.2.2.1,fun k e=>h _ (q.2.2.2.2 k e)⟩
theorem oIs.mono {neg:Bool}:∀ {x y Q Q'},(∀ d,Q d->Q' d)->oIs neg x y Q->oIs neg x y Q':=by intro x y Q Q' h;cases x <;> cases y <;> intro q <;> first | exact h _ q | exact q | exact ⟨q.1,h _ q.2⟩ | exact ⟨q.1,q.2.1,q.2.2.1,h _ q.2.2.2⟩ | exact ⟨q.1,q.2.1,q.2.2.1,fun k e=>h _ (q.2.2.2 k e)⟩ | exact ⟨q.1,q.2.1,q.2.2.1,q.2.2.2.1,fun k e=>h _ (q.2.2.2.2 k e)⟩
theorem oCmp.mono {op:CmpOp}:∀ {x y Q Q'},(∀ d,Q d->Q' d)->oCmp op x y Q->oCmp op x y Q':=by
 cases op;all_goals first | exact oLt.mono | exact oLe.mono | exact oGt.mono | exact oGe.mono | exact oEq.mono | exact oIs.mono | exact oIn.mono
def Rng (X:Cx)(g:Value->Value->Sem Value)(o:OD):Prop:=∃ r,OpR X g r/\RD X.K r o
theorem Rng.never {g:Value->Value->Sem Value}:Rng X g Bo:=⟨fun _ _ _ _=>False,fun _ _ _ _ _ _ _ _ _ _ _ _ h=>h.elim,fun _ _ _ _ _ _ _ _ _ _ _ _ _ h=>h.elim⟩
theorem IP:Rng X (binaryOp .Add) oAdd:=by
 refine ⟨_,OpR.or2 uB (OpR.or2 Bn (OpR.or2 Js (OpR.or2 Gp (Li X.K)))),?_⟩;intro f O σ ss H dx dy x y Q R rx ry h;cases dx <;> cases dy <;> first | (exact False.elim h) | skip
 ·rename_i i j;cases rx;cases ry;exact .inl ⟨i,j,rfl,rfl,h _ H (Ex.refl R.fl) rfl⟩
 ·rename_i i j;cases rx;cases ry;exact .inr (.inl ⟨i,j,rfl,rfl,h.1,h.2 _ H (Ex.refl R.fl) rfl⟩)
 ·rename_i la lb;obtain ⟨a,xs,rfl,h1,h2⟩:=rx;obtain ⟨b,ys,rfl,h3,h4⟩:=ry;obtain ⟨hl,q⟩:=h;cases la with
  | nil =>
   cases (show xs=[] from h2);exact .inr (.inr (.inr (.inr ⟨a,b,ys,rfl,rfl,h1,h3,q _ H (Ex.refl R.fl) ⟨b,ys,rfl,h3,h4⟩⟩)))
  | cons d la =>
   refine .inr (.inr (.inr (.inl ⟨a,b,xs,ys,rfl,rfl,h1,h3,?_,by rw [h2.len,h4.len];exact hl,fun e=>?_,fun e p hp=>?_⟩)))
   ·obtain ⟨v,r,e,_⟩:=h2;rw [e];simp
   ·subst e;cases lb with
    | nil =>
     refine q _ H (Ex.refl R.fl) ⟨a,xs,rfl,h1,?_⟩;rw [cL];exact h2
    | cons=>obtain ⟨v,r,e,_⟩:=h4;cases e
   ·exact q _ _ (R.new hp _) (R.tup hp (h2.append h4))
 ·rename_i la lb;obtain ⟨a,xs,rfl,n1,h1,h2⟩:=rx;obtain ⟨b,ys,rfl,n2,h3,h4⟩:=ry;exact .inr (.inr (.inl ⟨a,b,xs,ys,rfl,rfl,h1,h3,by rw [h2.len,h4.len];exact h.1,fun p hp=>h.2 _ _ (R.new hp _) (R.lst hp (h2.append h4))⟩))
theorem wb {g:Value->Value->Sem Value}{C:Int->Int->Prop}{w:Int->Int->Int}{o:OD}(h:OpR X g (rI C fun i j=>.int (w i j)))(ho:∀ dx dy Q,o dx dy Q->∃ i j,dx = .int i/\dy = .int j/\C i j/\Q (.int (w i j))):Rng X g o:=by
 refine ⟨_,h,fun f O σ ss H dx dy x y Q R rx ry h=>?_⟩;obtain ⟨i,j,rfl,rfl,c,q⟩:=ho _ _ _ h;cases rx;cases ry;exact ⟨i,j,rfl,rfl,c,q _ H (Ex.refl R.fl) rfl⟩
theorem w9 {g:Value->Value->Sem Value}{w:Int->Int->Bool}{o:OD}(h:OpR X g (Ef fun i j=>.bl (w i j)))(ho:∀ dx dy Q,o dx dy Q->∃ i j,dx = .int i/\dy = .int j/\Q (.bl (w i j))):Rng X g o:=by
 refine ⟨_,h,fun f O σ ss H dx dy x y Q R rx ry h=>?_⟩;obtain ⟨i,j,rfl,rfl,q⟩:=ho _ _ _ h;cases rx;cases ry;exact ⟨i,j,rfl,rfl,q _ H (Ex.refl R.fl) rfl⟩
theorem IN:Rng X (binaryOp .Mult) oMul:=by
 refine ⟨_,OpR.or2 Gn (OpR.or2 EI Gk),?_⟩;intro f O σ ss H dx dy x y Q R rx ry h;cases dx <;> cases dy <;> first | (exact False.elim h) | skip
 ·rename_i i j;cases rx;cases ry;exact .inl ⟨i,j,rfl,rfl,h.1,h.2 _ H (Ex.refl R.fl) rfl⟩
 ·rename_i la k;obtain ⟨a,xs,rfl,h1,h2⟩:=rx;cases ry;obtain ⟨z1,z2,z3,q⟩:=h;obtain ⟨k,rfl⟩:=dF (show 0<=k by omega);rw [aS] at z3 q;refine .inr (.inr ⟨a,xs,k,rfl,rfl,h1,fun z=>z1 ?_,by omega,by rw [h2.len];exact z3,fun e=>?_,fun _ p hp=>q _ _ (R.new hp _) (R.tup hp (h2.flat _))⟩)
  ·have:=h2.len;rw [z] at this;exact cU.mp this.symm
  ·refine q _ H (Ex.refl R.fl) ⟨a,xs,rfl,h1,?_⟩;rw [e,bB,List.replicate_zero,cF,List.flatten_nil,cL];exact h2
 ·rename_i la k;obtain ⟨a,xs,rfl,n1,h1,h2⟩:=rx;cases ry;exact .inr <| .inl ⟨a,k,xs,rfl,rfl,h1,h.1,h.2.1,by rw [h2.len];exact h.2.2.1,fun p hp=>h.2.2.2 _ _ (R.new hp _) (R.lst hp (h2.flat _))⟩
theorem IO {k:Nat}(hr:Room k X.A)(op:Operator):Rng X (binaryOp op) (oBin op):=by
 cases op;case Add=>exact IP
 case Mult=>exact IN
 case Sub =>
  refine ⟨_,Jm,fun f O σ ss H dx dy x y Q R rx ry h=>?_⟩;cases dx <;> cases dy <;> first | (exact False.elim h) | skip
  cases rx;cases ry;exact ⟨_,_,rfl,rfl,h _ H (Ex.refl R.fl) rfl⟩
 case FloorDiv=>exact wb (Ao hr) fun dx dy Q h=>by cases dx <;> cases dy <;> first | (exact False.elim h) | exact ⟨_,_,rfl,rfl,h.1,h.2⟩
 case Mod=>exact wb Go fun dx dy Q h=>by cases dx <;> cases dy <;> first | (exact False.elim h) | exact ⟨_,_,rfl,rfl,h.1,h.2⟩
 case Pow=>exact wb EJ fun dx dy Q h=>by cases dx <;> cases dy <;> first | (exact False.elim h) | exact ⟨_,_,rfl,rfl,h.1,h.2⟩
 case LShift=>exact wb Jn fun dx dy Q h=>by cases dx <;> cases dy <;> first | (exact False.elim h) | exact ⟨_,_,rfl,rfl,h.1,h.2⟩
 all_goals exact Rng.never
theorem Ky {k:Nat}(hr:Room k X.A):Rng X (compareOp .Eq) (oEq false):=by
 refine ⟨_,OpR.or2 HL (OpR.or2 (Nv X.K hr) (MB X.K hr)),?_⟩;intro f O σ ss H dx dy x y Q R rx ry h;cases dx <;> cases dy <;> first | (exact False.elim h) | skip
 ·rename_i i j;cases rx;cases ry;refine .inl ⟨rfl,?_⟩;have e:(decide (V.bl i=V.bl j))=decide (i=j):=by cases i <;> cases j <;> rfl
  rw [e];exact h _ H (Ex.refl R.fl) rfl
 ·rename_i i j;cases rx;cases ry;refine .inl ⟨rfl,?_⟩;have e:(decide (V.int i=V.int j))=decide (i=j):=by simp
  rw [e];exact h _ H (Ex.refl R.fl) rfl
 ·rename_i i j;cases rx;cases ry;refine .inl ⟨rfl,?_⟩;have e:(decide (V.str i=V.str j))=decide (i=j):=by simp
  rw [e];exact h _ H (Ex.refl R.fl) rfl
 ·rename_i la lb;obtain ⟨p1,p2,p3,q⟩:=h;refine .inr (.inl ⟨D.dvs la,D.dvs lb,Rp.rep (d:=.tup la) p1 rx,Rp.rep (d:=.tup lb) p2 ry,D.dvs_pl p1,D.dvs_pl p2,by rw [D.dvs_dp];exact p3,fun b hb=>?_⟩);exact q b (hb.trans ⟨fun e=>D.dvs_inj p1 p2 e,fun e=>by rw [e]⟩) _ H (Ex.refl R.fl) rfl
 ·rename_i la lb;obtain ⟨_,p1,p2,p3,q⟩:=h;refine .inr (.inr ⟨D.dvs la,D.dvs lb,Rp.rep (d:=.lst la) p1 rx,Rp.rep (d:=.lst lb) p2 ry,D.dvs_pl p1,D.dvs_pl p2,by rw [D.dvs_dp];exact p3,fun b hb=>?_⟩);exact q b (hb.trans ⟨fun e=>D.dvs_inj p1 p2 e,fun e=>by rw [e]⟩) _ H (Ex.refl R.fl) rfl
theorem Kw {k:Nat}(hr:Room k X.A):Rng X (compareOp .NotEq) (oEq true):=by
 refine ⟨_,OpR.or2 KS (OpR.or2 (Nq X.K hr) (Mp X.K hr)),?_⟩;intro f O σ ss H dx dy x y Q R rx ry h;cases dx <;> cases dy <;> first | (exact False.elim h) | skip
 ·rename_i i j;cases rx;cases ry;refine .inl ⟨rfl,?_⟩;have e:(decide (V.bl i=V.bl j))=decide (i=j):=by cases i <;> cases j <;> rfl
  rw [e];exact h _ H (Ex.refl R.fl) rfl
 ·rename_i i j;cases rx;cases ry;refine .inl ⟨rfl,?_⟩;have e:(decide (V.int i=V.int j))=decide (i=j):=by simp
  rw [e];exact h _ H (Ex.refl R.fl) rfl
 ·rename_i i j;cases rx;cases ry;refine .inl ⟨rfl,?_⟩;have e:(decide (V.str i=V.str j))=decide (i=j):=by simp
  rw [e];exact h _ H (Ex.refl R.fl) rfl
 ·rename_i la lb;obtain ⟨p1,p2,p3,q⟩:=h;refine .inr (.inl ⟨D.dvs la,D.dvs lb,Rp.rep (d:=.tup la) p1 rx,Rp.rep (d:=.tup lb) p2 ry,D.dvs_pl p1,D.dvs_pl p2,by rw [D.dvs_dp];exact p3,fun b hb=>?_⟩);exact q b (hb.trans ⟨fun e=>D.dvs_inj p1 p2 e,fun e=>by rw [e]⟩) _ H (Ex.refl R.fl) rfl
 ·rename_i la lb;obtain ⟨_,p1,p2,p3,q⟩:=h;refine .inr (.inr ⟨D.dvs la,D.dvs lb,Rp.rep (d:=.lst la) p1 rx,Rp.rep (d:=.lst lb) p2 ry,D.dvs_pl p1,D.dvs_pl p2,by rw [D.dvs_dp];exact p3,fun b hb=>?_⟩);exact q b (hb.trans ⟨fun e=>D.dvs_inj p1 p2 e,fun e=>by rw [e]⟩) _ H (Ex.refl R.fl) rfl
theorem Kx:Rng X (compareOp .Is) (oIs false):=by
 refine ⟨_,Jp,fun f O σ ss H dx dy x y Q R rx ry h=>?_⟩;cases dy <;> first | (exact False.elim h) | skip
 cases ry;refine ⟨rfl,?_⟩;cases dx;case tup=>obtain ⟨a,xs,rfl,_⟩:=rx;exact h _ H (Ex.refl R.fl) rfl
 case lst=>obtain ⟨a,xs,rfl,_⟩:=rx;exact h _ H (Ex.refl R.fl) rfl
 case exn=>obtain ⟨a,xs,rfl,_⟩:=rx;exact h _ H (Ex.refl R.fl) rfl
 all_goals (cases rx;exact h _ H (Ex.refl R.fl) rfl)
theorem Ea:Rng X (compareOp .IsNot) (oIs true):=by
 refine ⟨_,Gm,fun f O σ ss H dx dy x y Q R rx ry h=>?_⟩;cases dy <;> first | (exact False.elim h) | skip
 cases ry;refine ⟨rfl,?_⟩;cases dx;case tup=>obtain ⟨a,xs,rfl,_⟩:=rx;exact h _ H (Ex.refl R.fl) rfl
 case lst=>obtain ⟨a,xs,rfl,_⟩:=rx;exact h _ H (Ex.refl R.fl) rfl
 case exn=>obtain ⟨a,xs,rfl,_⟩:=rx;exact h _ H (Ex.refl R.fl) rfl
 all_goals (cases rx;exact h _ H (Ex.refl R.fl) rfl)
theorem Rps.strs:∀ {zs:List Str} {vs:List V},Rps K f O H (zs.map D.str) vs->vs=zs.map V.str
 | [],_,h=>h
 | z::zs,_,h=>by
  obtain ⟨v,r,e1,h1,h2⟩:=h;rw [e1,Rps.strs h2,show v = .str z from h1];rfl
theorem CG (i:Int)(ns:List Int):J9 (.int i) (ns.map V.int)=decide (i∈ns):=by
 apply cN.mpr;unfold J9;rw [gw,decide_eq_true_iff];constructor
 ·rintro ⟨y,hy,e⟩;obtain ⟨j,hj,rfl⟩:=dM.mp hy;have e:(j == i)=true:=e;exact beq_iff_eq.mp e ▸ hj
 ·exact fun h=>⟨_,dM.mpr ⟨i,h,rfl⟩,show (i == i)=true from beq_self_eq_true i⟩
theorem CF (i:Str)(ns:List Str):J9 (.str i) (ns.map V.str)=decide (i∈ns):=by
 apply cN.mpr;unfold J9;rw [gw,decide_eq_true_iff];constructor
 ·rintro ⟨y,hy,e⟩;obtain ⟨j,hj,rfl⟩:=dM.mp hy;have e:(j == i)=true:=e;exact beq_iff_eq.mp e ▸ hj
 ·exact fun h=>⟨_,dM.mpr ⟨i,h,rfl⟩,show (i == i)=true from beq_self_eq_true i⟩
theorem D.dvs_mem {x:D}:∀ {l:List D},x.pl=true->D.pls l=true->(x.dv∈D.dvs l↔x∈l)
 | [],_,_=>⟨fun h=>(by cases h),fun h=>by cases h⟩
 | d::l,hx,hl=>by
  have h:=ay.mp (show (d.pl && D.pls l)=true from hl);show x.dv∈d.dv::D.dvs l↔_;rw [au,au,D.dvs_mem hx h.2];exact or_congr ⟨fun e=>D.dv_inj hx h.1 e,fun e=>by rw [e]⟩ Iff.rfl
theorem HA (neg:Bool):RD K (fun x y H Q=>Mm K neg x y H Q\/IW K neg x y H Q) (oIn neg):=by
 rintro f O σ ss H dx dy x y Q R rx ry (⟨i,ns,rfl,hy,q⟩ | ⟨i,ns,rfl,hy,q⟩ | ⟨l,rfl,p1,p2,p3,q⟩)
 ·cases rx;have fl:(ns.map V.int).all vw=true:=by rw [fY];exact cB.mpr fun _ _=>rfl
  rcases hy with rfl | rfl
  ·obtain ⟨a,xs,rfl,_,h1,r1⟩:=ry;rw [Rps.ints r1] at h1;exact .inl ⟨a,_,rfl,.inl (SqL.of h1),rfl,fl,by rw [CG];exact q _ H (Ex.refl R.fl) rfl⟩
  ·obtain ⟨a,xs,rfl,h1,r1⟩:=ry;rw [Rps.ints r1] at h1;exact .inl ⟨a,_,rfl,.inr h1,rfl,fl,by rw [CG];exact q _ H (Ex.refl R.fl) rfl⟩
 ·cases rx;have fl:(ns.map V.str).all vw=true:=by rw [fY];exact cB.mpr fun _ _=>rfl
  rcases hy with rfl | rfl
  ·obtain ⟨a,xs,rfl,_,h1,r1⟩:=ry;rw [Rps.strs r1] at h1;exact .inl ⟨a,_,rfl,.inl (SqL.of h1),rfl,fl,by rw [CF];exact q _ H (Ex.refl R.fl) rfl⟩
  ·obtain ⟨a,xs,rfl,h1,r1⟩:=ry;rw [Rps.strs r1] at h1;exact .inl ⟨a,_,rfl,.inr h1,rfl,fl,by rw [CF];exact q _ H (Ex.refl R.fl) rfl⟩
 ·exact .inr ⟨dx.dv,D.dvs l,Rp.rep p1 rx,Rp.rep (d:=.lst l) p2 ry,D.dv_pl p1,D.dvs_pl p2,by rw [D.dvs_dp];exact p3,fun b hb=>q b (hb.trans (D.dvs_mem p1 p2)) _ H (Ex.refl R.fl) rfl⟩
theorem wc {k:Nat}(hr:Room k X.A)(op:CmpOp):Rng X (compareOp op) (oCmp op):=by
 cases op;case Eq=>exact Ky hr
 case NotEq=>exact Kw hr
 case Lt=>exact w9 HI fun dx dy Q h=>by cases dx <;> cases dy <;> first | (exact False.elim h) | exact ⟨_,_,rfl,rfl,h⟩
 case LtE=>exact w9 KT fun dx dy Q h=>by cases dx <;> cases dy <;> first | (exact False.elim h) | exact ⟨_,_,rfl,rfl,h⟩
 case Gt=>exact w9 HJ fun dx dy Q h=>by cases dx <;> cases dy <;> first | (exact False.elim h) | exact ⟨_,_,rfl,rfl,h⟩
 case GtE=>exact w9 HK fun dx dy Q h=>by cases dx <;> cases dy <;> first | (exact False.elim h) | exact ⟨_,_,rfl,rfl,h⟩
 case Is=>exact Kx
 case IsNot=>exact Ea
 case In=>exact ⟨_,OpR.or2 De (Jq X.K hr),HA false⟩
 case NotIn=>exact ⟨_,OpR.or2 yY (Dd X.K hr),HA true⟩
end Dp
namespace Dp
open PySem L2
variable {K:Frag}{f:Addr}{O O':List Addr}{H H':Hp}{X:Cx}{σ:St}{ss:SS}{a b c:Expr}{ta tb tc:TEd}{tA tB:TTd}{pos:Pos}
def iL (op:Operator)(a b:TEd):TEd:=d2 (oBin op) oBin.mono a b
theorem iL.ok {k:Nat}{op:Operator}(hr:Room k X.A)(ha:PE X a (LE X.K ta))(hb:PE X b (LE X.K tb)):PE X (.BinOp a op b pos) (LE X.K (iL op ta tb)):=by
 obtain ⟨r,h,hr⟩:=IO (X:=X) hr op;exact d2.ok hr (tJ h ha hb)
def iR (op:CmpOp)(a b:TEd):TEd:=d2 (oCmp op) oCmp.mono a b
theorem iR.ok {k:Nat}{op:CmpOp}(hr:Room k X.A)(ha:PE X a (LE X.K ta))(hb:PE X b (LE X.K tb))(hm:behindInMarks op b=false):PE X (.Compare a [op] [b] pos) (LE X.K (iR op ta tb)):=by
 obtain ⟨r,h,hr⟩:=wc hr op;exact d2.ok hr (Gi h ha hb hm)
def iQ (t:TEd):TTd:=⟨fun ss Q=>t.run ss fun d=>match d with | .bl b=>Q b | _=>False,fun {ss Q Q'} h q=>t.mono (fun d q=>by
 revert q;cases d <;> first | exact h _ | exact id) q⟩
theorem LE.test {t:TEd}{σ:St}{H:Hp}{Q:Bool->Hp->Prop}(h:LT X.K (iQ t) σ H Q):DR (LE X.K t) σ H Q:=by
 obtain ⟨f,O,ss,R,q⟩:=h;refine ⟨f,O,ss,R,t.mono (fun d q v H' e r=>?_) q⟩;cases d <;> first | exact False.elim q | skip
 cases r;exact ⟨_,rfl,q H' e⟩
theorem iR.test {k:Nat}{op:CmpOp}(hr:Room k X.A)(ha:PE X a (LE X.K ta))(hb:PE X b (LE X.K tb))(hm:behindInMarks op b=false):PT X (.Compare a [op] [b] pos) (LT X.K (iQ (iR op ta tb))):=by
 obtain ⟨r,h,hr⟩:=wc hr op;refine (vU (pos:=pos) h ha hb hm).weak fun σ H Q q=>?_;have q:=LE.test q;obtain ⟨f,O,ss,R,q⟩:=q;refine ⟨f,O,ss,R,ta.mono (fun dx q v1 H1 e1 r1=>?_) q⟩;refine ⟨f,O,ss,R.ex e1,tb.mono (fun dy q v2 H2 e2 r2=>?_) q⟩;exact hr f O σ ss H2 dx dy v1 v2 _ ((R.ex e1).ex e2) ((R.ex e1).up e2 r1) r2 (oCmp.mono (fun d q v H' e3 r3=>q v H' (e1.trans (e2.trans e3)) r3) q)
def jM (op op':CmpOp)(a b c:TEd):TEd:=⟨fun ss Q=>a.run ss fun x=>b.run ss fun y=>oCmp op x y fun z=>match z with | .bl k=>if k=true then c.run ss fun w=>oCmp op' y w Q else Q (.bl false) | _=>False,fun {ss Q Q'} h q=>a.mono (fun x q=>b.mono (fun y q=>oCmp.mono (fun d q=>by
 revert q;cases d <;> first | exact id | skip
 rename_i k;cases k
 ·exact h _
 ·exact c.mono fun w q=>oCmp.mono h q) q) q) q⟩
theorem jM.test {k:Nat}{op op':CmpOp}(hr:Room k X.A)(ha:PE X a (LE X.K ta))(hb:PE X b (LE X.K tb))(hc:PE X c (LE X.K tc))(hm:lastMarks [op,op'] [b,c]=false):PT X (.Compare a [op,op'] [b,c] pos) (LT X.K (iQ (jM op op' ta tb tc))):=by
 obtain ⟨r,h,h1⟩:=wc hr op;obtain ⟨r',h',h2⟩:=wc hr op';refine (En (pos:=pos) h h' ha hb hc hm).weak fun σ H Q q=>?_;have q:=LE.test q;obtain ⟨f,O,ss,R,q⟩:=q;refine ⟨f,O,ss,R,ta.mono (fun dx q v1 H1 e1 r1=>?_) q⟩;refine ⟨f,O,ss,R.ex e1,tb.mono (fun dy q v2 H2 e2 r2=>?_) q⟩;have R2:=(R.ex e1).ex e2;refine h1 f O σ ss H2 dx dy v1 v2 _ R2 ((R.ex e1).up e2 r1) r2 (oCmp.mono (fun d q v H3 e3 r3=>?_) q);cases d <;> first | exact False.elim q | skip
 rename_i k;cases r3;refine ⟨k,rfl,?_⟩;cases k
 ·exact q _ H3 (e1.trans (e2.trans e3)) rfl
 ·have R3:=R2.ex e3;refine ⟨f,O,ss,R3,tc.mono (fun dz q v4 H4 e4 r4=>?_) q⟩;exact h2 f O σ ss H4 dy dz v2 v4 _ (R3.ex e4) (R3.up e4 (R2.up e3 r2)) r4 (oCmp.mono (fun d q v H' e5 r5=>q v H' (e1.trans (e2.trans (e3.trans (e4.trans e5)))) r5) q)
theorem jM.ok {k:Nat}{op op':CmpOp}(hr:Room k X.A)(ha:PE X a (LE X.K ta))(hb:PE X b (LE X.K tb))(hc:PE X c (LE X.K tc))(hm:lastMarks [op,op'] [b,c]=false):PE X (.Compare a [op,op'] [b,c] pos) (LE X.K (jM op op' ta tb tc)):=by
 obtain ⟨r,h,h1⟩:=wc hr op;obtain ⟨r',h',h2⟩:=wc hr op';refine (Ey (pos:=pos) h h' ha hb hc hm).weak fun σ H Q q=>?_;obtain ⟨f,O,ss,R,q⟩:=q;refine ⟨f,O,ss,R,ta.mono (fun dx q v1 H1 e1 r1=>?_) q⟩;refine ⟨f,O,ss,R.ex e1,tb.mono (fun dy q v2 H2 e2 r2=>?_) q⟩;have R2:=(R.ex e1).ex e2;refine h1 f O σ ss H2 dx dy v1 v2 _ R2 ((R.ex e1).up e2 r1) r2 (oCmp.mono (fun d q v H3 e3 r3=>?_) q);cases d <;> first | exact False.elim q | skip
 rename_i k;cases r3;refine ⟨k,rfl,?_⟩;cases k
 ·exact q _ H3 (e1.trans (e2.trans e3)) rfl
 ·have R3:=R2.ex e3;refine ⟨f,O,ss,R3,tc.mono (fun dz q v4 H4 e4 r4=>?_) q⟩;exact h2 f O σ ss H4 dy dz v2 v4 _ (R3.ex e4) (R3.up e4 (R2.up e3 r2)) r4 (oCmp.mono (fun d q v H' e5 r5=>q v H' (e1.trans (e2.trans (e3.trans (e4.trans e5)))) r5) q)
def mr (a:TEd):TEd:=⟨fun ss Q=>a.run ss fun d=>match d with | .int i=>Q (.int (-i)) | _=>False,fun {ss Q Q'} h q=>a.mono (fun d q=>by
 revert q;cases d <;> first | exact h _ | exact id) q⟩
theorem mr.ok (ha:PE X a (LE X.K ta)):PE X (.UnaryOp .USub a pos) (LE X.K (mr ta)):=(HE (pos:=pos) DN ha).weak fun σ H Q ⟨f,O,ss,R,q⟩=>⟨f,O,ss,R,ta.mono (fun d q v H1 e r=>by
 cases d <;> first | exact False.elim q | skip
 cases r;exact ⟨_,rfl,q _ H1 e rfl⟩) q⟩
def truD:D->(Bool->Prop)->Prop
 | .non,Q=>Q false
 | .bl b,Q=>Q b
 | .int i,Q=>Q (i != 0)
 | .str y,Q=>y.length<=sizeLine/\Q ((y.length:Int) != 0)
 | .tup l,Q=>Q (!l.isEmpty)
 | .lst l,Q=>Q (!l.isEmpty)
 | .fl,_=>False
 | .exn _ _ _,_=>False
theorem truD.mono:∀ {d:D} {Q Q':Bool->Prop},(∀ b,Q b->Q' b)->truD d Q->truD d Q'
 | .non,_,_,h,q=>h _ q
 | .bl _,_,_,h,q=>h _ q
 | .int _,_,_,h,q=>h _ q
 | .str _,_,_,h,q=>⟨q.1,h _ q.2⟩
 | .tup _,_,_,h,q=>h _ q
 | .lst _,_,_,h,q=>h _ q
 | .fl,_,_,_,q=>q
 | .exn _ _ _,_,_,_,q=>q
theorem Rps.empty:∀ {ds:List D} {vs:List V},Rps K f O H ds vs->vs.isEmpty=ds.isEmpty
 | [],_,h=>by rw [show _=[] from h];rfl
 | _::_,_,h=>by obtain ⟨v,r,e,_⟩:=h;rw [e];rfl
def jZ (a:TEd):TTd:=⟨fun ss Q=>a.run ss fun d=>truD d Q,fun h q=>a.mono (fun d q=>truD.mono h q) q⟩
theorem jZ.ok (ha:PE X a (LE X.K ta))(he:∀ whole,isTrue a X.env whole=(do let v ← whole;standAt a.pos;holding [v] (truthy v))):PT X a (LT X.K (jZ ta)):=(Em ha he).weak fun σ H Q ⟨f,O,ss,R,q⟩=>⟨f,O,ss,R,ta.mono (fun d q v H1 e r=>by
 cases d;case non=>cases r;exact ⟨false,rfl,q H1 e⟩
 case bl=>cases r;exact ⟨_,rfl,q H1 e⟩
 case int=>cases r;exact ⟨_,rfl,q H1 e⟩
 case str=>cases r;exact ⟨_,⟨q.1,rfl⟩,q.2 H1 e⟩
 case tup l =>
  obtain ⟨p,xs,rfl,h1,h2⟩:=r;exact ⟨_,.inr (.inl ⟨xs,h1,by rw [h2.empty]⟩),q H1 e⟩
 case lst l =>
  obtain ⟨p,xs,rfl,_,h1,h2⟩:=r;exact ⟨_,.inl ⟨xs,SqL.of h1,by rw [h2.empty]⟩,q H1 e⟩
 case fl=>exact False.elim q
 case exn=>exact False.elim q) q⟩
def kr (a b:TTd):TTd:=⟨fun ss Q=>a.run ss fun k=>if k=true then b.run ss Q else Q false,fun {ss Q Q'} h q=>a.mono (fun k q=>by
 revert q;cases k
 ·exact h _
 ·exact b.mono h) q⟩
def kG (a b:TTd):TTd:=⟨fun ss Q=>a.run ss fun k=>if k=true then Q true else b.run ss Q,fun {ss Q Q'} h q=>a.mono (fun k q=>by
 revert q;cases k
 ·exact b.mono h
 ·exact h _) q⟩
def jz (a:TTd):TTd:=⟨fun ss Q=>a.run ss fun k=>Q (!k),fun h q=>a.mono (fun k q=>h _ q) q⟩
theorem kr.weak {σ:St}{H:Hp}{Q:Bool->Hp->Prop}(h:LT X.K (kr tA tB) σ H Q):Kr (LT X.K tA) (LT X.K tB) σ H Q:=by
 obtain ⟨f,O,ss,S,q⟩:=h;refine ⟨f,O,ss,S,tA.mono (fun k q H1 e=>?_) q⟩;cases k
 ·exact q H1 e
 ·exact ⟨f,O,ss,S.ex e,tB.mono (fun k q H2 e2=>q H2 (e.trans e2)) q⟩
theorem kG.weak {σ:St}{H:Hp}{Q:Bool->Hp->Prop}(h:LT X.K (kG tA tB) σ H Q):MT (LT X.K tA) (LT X.K tB) σ H Q:=by
 obtain ⟨f,O,ss,S,q⟩:=h;refine ⟨f,O,ss,S,tA.mono (fun k q H1 e=>?_) q⟩;cases k
 ·exact ⟨f,O,ss,S.ex e,tB.mono (fun k q H2 e2=>q H2 (e.trans e2)) q⟩
 ·exact q H1 e
theorem _root_.L2.PW.weak {e:Expr}{t t':TT}(h:PW X e t)(w:∀ σ H Q,t' σ H Q->t σ H Q):PW X e t':=fun wh pins s σ H Q I q=>h wh pins s σ H Q I (w σ H Q q)
theorem kr.ok {rest:List Expr}(ha:PT X a (LT X.K tA))(hb:PW X (.BoolOp .And (b::rest) pos) (LT X.K tB)):PW X (.BoolOp .And (a::b::rest) pos) (LT X.K (kr tA tB)):=(Ej ha hb).weak fun _ _ _=>kr.weak
theorem kG.ok {rest:List Expr}(ha:PT X a (LT X.K tA))(hb:PW X (.BoolOp .Or (b::rest) pos) (LT X.K tB)):PW X (.BoolOp .Or (a::b::rest) pos) (LT X.K (kG tA tB)):=(KL ha hb).weak fun _ _ _=>kG.weak
theorem jz.ok (ha:PT X a (LT X.K tA)):PT X (.UnaryOp .Not a pos) (LT X.K (jz tA)):=(Ja ha).weak fun σ H Q ⟨f,O,ss,S,q⟩=>⟨f,O,ss,S,q⟩
def qI (a b:TEd):TEd:=⟨fun ss Q=>a.run ss fun d=>match d with | .bl k=>if k=true then b.run ss Q else Q (.bl false) | _=>False,fun {ss Q Q'} h q=>a.mono (fun d q=>by
 revert q;cases d <;> first | exact id | skip
 rename_i k;cases k
 ·exact h _
 ·exact b.mono h) q⟩
def dOr (a b:TEd):TEd:=⟨fun ss Q=>a.run ss fun d=>match d with | .bl k=>if k=true then Q (.bl true) else b.run ss Q | _=>False,fun {ss Q Q'} h q=>a.mono (fun d q=>by
 revert q;cases d <;> first | exact id | skip
 rename_i k;cases k
 ·exact b.mono h
 ·exact h _) q⟩
def rQ (a:TEd):TEd:=⟨fun ss Q=>a.run ss fun d=>match d with | .bl k=>Q (.bl (!k)) | _=>False,fun {ss Q Q'} h q=>a.mono (fun d q=>by
 revert q;cases d <;> first | exact h _ | exact id) q⟩
theorem qI.ok {rest:List Expr}(ha:PE X a (LE X.K ta))(hb:PE X (.BoolOp .And (b::rest) pos) (LE X.K tb)):PE X (.BoolOp .And (a::b::rest) pos) (LE X.K (qI ta tb)):=(Jj ha hb).weak fun σ H Q ⟨f,O,ss,S,q⟩=>⟨f,O,ss,S,ta.mono (fun d q v H1 e r=>by
 cases d <;> first | exact False.elim q | skip
 rename_i k;cases r;refine ⟨k,rfl,?_⟩;cases k
 ·exact q _ H1 e rfl
 ·exact ⟨f,O,ss,S.ex e,tb.mono (fun k q v H2 e2 r=>q v H2 (e.trans e2) r) q⟩) q⟩
theorem dOr.ok {rest:List Expr}(ha:PE X a (LE X.K ta))(hb:PE X (.BoolOp .Or (b::rest) pos) (LE X.K tb)):PE X (.BoolOp .Or (a::b::rest) pos) (LE X.K (dOr ta tb)):=(KO ha hb).weak fun σ H Q ⟨f,O,ss,S,q⟩=>⟨f,O,ss,S,ta.mono (fun d q v H1 e r=>by
 cases d <;> first | exact False.elim q | skip
 rename_i k;cases r;refine ⟨k,rfl,?_⟩;cases k
 ·exact ⟨f,O,ss,S.ex e,tb.mono (fun k q v H2 e2 r=>q v H2 (e.trans e2) r) q⟩
 ·exact q _ H1 e rfl) q⟩
theorem rQ.ok (ha:PE X a (LE X.K ta)):PE X (.UnaryOp .Not a pos) (LE X.K (rQ ta)):=(Jh (pos:=pos) ha).weak fun σ H Q ⟨f,O,ss,S,q⟩=>⟨f,O,ss,S,ta.mono (fun d q v H1 e r=>by
 cases d <;> first | exact False.elim q | skip
 rename_i k;cases r;exact ⟨k,rfl,q _ H1 e rfl⟩) q⟩
def qJ (c:TTd)(a b:TEd):TEd:=⟨fun ss Q=>c.run ss fun k=>if k=true then a.run ss Q else b.run ss Q,fun {ss Q Q'} h q=>c.mono (fun k q=>by
 revert q;cases k
 ·exact b.mono h
 ·exact a.mono h) q⟩
theorem qJ.ok (hc:PT X c (LT X.K tA))(ha:PE X a (LE X.K ta))(hb:PE X b (LE X.K tb)):PE X (.IfExp c a b pos) (LE X.K (qJ tA ta tb)):=(Ew (pos:=pos) hc ha hb).weak fun σ H Q ⟨f,O,ss,S,q⟩=>⟨f,O,ss,S,tA.mono (fun k q H1 e=>by
 cases k
 ·exact ⟨f,O,ss,S.ex e,tb.mono (fun k q v H2 e2 r=>q v H2 (e.trans e2) r) q⟩
 ·exact ⟨f,O,ss,S.ex e,ta.mono (fun k q v H2 e2 r=>q v H2 (e.trans e2) r) q⟩) q⟩
def iJ:TAd:=⟨fun _ Q=>Q [],fun h q=>h _ q⟩
def iH (a:TEd)(r:TAd):TAd:=⟨fun ss Q=>a.run ss fun d=>r.run ss fun ds=>Q (d::ds),fun h q=>a.mono (fun d q=>r.mono (fun ds q=>h _ q) q) q⟩
theorem iJ.ok:PA X [] (LA X.K iJ):=pa_nil.weak fun σ H Q ⟨f,O,ss,S,q⟩=>q [] H (Ex.refl S.fl) rfl
theorem iH.ok {es:List Expr}{t:TAd}(ha:PE X a (LE X.K ta))(hr:PA X es (LA X.K t))(hs:starEach (a::es) X.env=(false,eval a X.env)::starEach es X.env):PA X (a::es) (LA X.K (iH ta t)):=(sZ ha hr hs).weak fun σ H Q ⟨f,O,ss,S,q⟩ =>
 ⟨f,O,ss,S,ta.mono (fun d q v H1 e r=>⟨f,O,ss,S.ex e,t.mono (fun ds q vs H2 e2 r2=>q (v::vs) H2 (e.trans e2) ⟨v,vs,rfl,(S.ex e).up e2 r,r2⟩) q⟩) q⟩
def iZ (t:TAd):TEd:=⟨fun ss Q=>t.run ss fun ds=>ds.length<=sizeLine/\Q (.tup ds),fun h q=>t.mono (fun ds q=>⟨q.1,h _ q.2⟩) q⟩
def iY (t:TAd):TEd:=⟨fun ss Q=>t.run ss fun ds=>ds.length<=sizeLine/\Q (.lst ds),fun h q=>t.mono (fun ds q=>⟨q.1,h _ q.2⟩) q⟩
theorem iZ.ok {es:List Expr}{t:TAd}{k:Nat}(h:PA X es (LA X.K t)):PE X (.Tuple es k pos) (LE X.K (iZ t)):=(Je h).weak fun σ H Q ⟨f,O,ss,S,q⟩ =>
 ⟨f,O,ss,S,t.mono (fun ds q vs H1 e r=>⟨by rw [r.len];exact q.1,fun p hp=>q.2 _ _ (e.trans ((S.ex e).new hp _)) ((S.ex e).tup hp r)⟩) q⟩
theorem iY.ok {es:List Expr}{t:TAd}(h:PA X es (LA X.K t)):PE X (.List es pos) (LE X.K (iY t)):=(Bi h).weak fun σ H Q ⟨f,O,ss,S,q⟩ =>
 ⟨f,O,ss,S,t.mono (fun ds q vs H1 e r=>⟨by rw [r.len];exact q.1,fun p hp=>q.2 _ _ (e.trans ((S.ex e).new hp _)) ((S.ex e).lst hp r)⟩) q⟩
def itD (l:List D)(i:Int)(Q:D->Prop):Prop:=match xZ l i with | some d=>Q d | none=>False
theorem itD.mono {l:List D}{i:Int}{Q Q':D->Prop}(h:∀ d,Q d->Q' d):itD l i Q->itD l i Q':=by
 unfold itD;split
 ·exact h _
 ·exact id
theorem itD.rp {l:List D}{xs:List V}{i:Int}{Q:D->Prop}(r:Rps K f O H l xs)(q:itD l i Q):∃ v d,xZ xs i=some v/\Rp K f O H d v/\Q d:=by
 unfold itD at q;split at q
 ·rename_i d e;unfold xZ at e ⊢;rw [r.len];cases h:AX l.length i with
  | none=>rw [h] at e;cases e
  | some j =>
   rw [h] at e;obtain ⟨v,h1,h2⟩:=r.get (show l[j]? = some d from e);exact ⟨v,d,h1,h2,q⟩
 ·exact q.elim
def oIx:OD
 | .lst l,.int i,Q=>itD l i Q
 | .tup l,.int i,Q=>itD l i Q
 | .str z,.int i,Q=>z.length<=sizeLine/\∃ c,xZ z.cps.toList i=some c/\Q (.str ⟨#[c]⟩)
 | _,_,_=>False
theorem oIx.mono:∀ {x y Q Q'},(∀ d,Q d->Q' d)->oIx x y Q->oIx x y Q':=by
 intro x y Q Q' h;cases x <;> cases y <;> intro q <;> first | exact itD.mono h q | exact q | skip
 obtain ⟨q0,c,q1,q2⟩:=q;exact ⟨q0,c,q1,h _ q2⟩
theorem Hz:RD X.K (MW X.K) oIx:=by
 intro f O σ ss H dx dy x y Q R rx ry h;cases dx <;> cases dy <;> first | (exact False.elim h) | skip
 ·rename_i z i;cases rx;cases ry;obtain ⟨q0,c,q1,q2⟩:=h;exact .inr (.inr ⟨z,i,c,rfl,rfl,q0,q1,q2 _ H (Ex.refl R.fl) rfl⟩)
 ·rename_i l i;obtain ⟨p,xs,rfl,h1,h2⟩:=rx;cases ry;obtain ⟨v,d,e,r,q⟩:=itD.rp h2 h;exact .inr (.inl ⟨p,xs,i,v,rfl,rfl,h1,e,q v H (Ex.refl R.fl) r⟩)
 ·rename_i l i;obtain ⟨p,xs,rfl,_,h1,h2⟩:=rx;cases ry;obtain ⟨v,d,e,r,q⟩:=itD.rp h2 h;exact .inl ⟨p,xs,i,v,rfl,rfl,SqL.of h1,e,q v H (Ex.refl R.fl) r⟩
def dIx (a b:TEd):TEd:=d2 oIx oIx.mono a b
theorem dIx.ok (ha:PE X a (LE X.K ta))(hb:PE X b (LE X.K tb))(hs:xj b):PE X (.Subscript a b pos) (LE X.K (dIx ta tb)):=d2.ok Hz (tV EZ ha hb hs)
def itI (l:List D)(y:D)(Q:D->Prop):Prop:=match y with | .int j=>itD l j Q | _=>False
theorem itI.mono {l:List D}{y:D}{Q Q':D->Prop}(h:∀ d,Q d->Q' d):itI l y Q->itI l y Q':=by
 cases y <;> first | exact id | exact itD.mono h
def oQ (i:Nat)(b:TEd):TEd:=⟨fun ss Q=>match ss[i]? with | some (.val d)=>b.run ss fun y=>oIx d y Q | some (.own l)=>b.run ss fun y=>itI l y Q | _=>False,fun {ss Q Q'} h q=>by
 revert q;split
 ·exact b.mono fun y=>oIx.mono h
 ·exact b.mono fun y=>itI.mono h
 ·exact id⟩
theorem oQ.ok {i:Nat}(ha:PE X a (vz i))(hb:PE X b (LE X.K tb))(hs:xj b):PE X (.Subscript a b pos) (LE X.K (oQ i tb)):=(tV (pos:=pos) EZ ha hb hs).weak fun σ H Q ⟨f,O,ss,R,q⟩=>by
 have q:(match ss[i]? with | some (.val d)=>tb.run ss fun y=>oIx d y (fun d=>∀ v H',Ex f H H'->Rp X.K f O H' d v->Q v H') | some (.own l)=>tb.run ss fun y=>itI l y (fun d=>∀ v H',Ex f H H'->Rp X.K f O H' d v->Q v H') | _=>False):=q;split at q
 ·rename_i d e;obtain ⟨v,h1,h2⟩:=R.val i d e;refine ⟨v,h1,f,O,ss,R,tb.mono (fun dy q y H1 e1 r1=>?_) q⟩;exact Hz f O σ ss H1 d dy v y Q (R.ex e1) (R.up e1 h2) r1 (oIx.mono (fun d q v H' e r=>q v H' (e1.trans e) r) q)
 ·rename_i l e;obtain ⟨p,xs,h1,h2,h3,h4,h5⟩:=R.own i l e;refine ⟨_,h1,f,O,ss,R,tb.mono (fun dy q y H1 e1 r1=>?_) q⟩;cases dy <;> first | exact False.elim q | skip
  cases r1;obtain ⟨v,d,e,r,q⟩:=itD.rp (R.ups e1 h5) q;exact .inl ⟨p,xs,_,v,rfl,rfl,SqL.of (e1.sm.app p _ h3 h4),e,q v H1 e1 r⟩
 ·exact q.elim
def x9 {α:Type}(xs:List α)(lo hi:Option Int):List α:=(xs.drop (HT.tM xs.length 0 lo)).take (HT.tM xs.length xs.length hi-HT.tM xs.length 0 lo)
theorem Rps.cut {ds:List D}{xs:List V}(r:Rps K f O H ds xs)(lo hi:Option Int):Rps K f O H (x9 ds lo hi) (AL xs lo hi):=by
 unfold x9 AL;rw [r.len];exact (r.drop _).take _
def dNo:TOd:=⟨fun _ Q=>Q none,fun h q=>h _ q⟩
def oC (t:TEd):TOd:=⟨fun ss Q=>t.run ss fun d=>match d with | .int i=>Q (some i) | _=>False,fun {ss Q Q'} h q=>t.mono (fun d q=>by
 revert q;cases d <;> first | exact h _ | exact id) q⟩
theorem dNo.ok:PO X none (LO X.K dNo):=po_none.weak fun σ H Q ⟨f,O,ss,S,q⟩=>q H (Ex.refl S.fl)
theorem oC.ok (ha:PE X a (LE X.K ta)):PO X (some a) (LO X.K (oC ta)):=(Cg ha).weak fun σ H Q ⟨f,O,ss,S,q⟩=>⟨f,O,ss,S,ta.mono (fun d q v H1 e r=>by
 cases d <;> first | exact False.elim q | skip
 cases r;exact ⟨_,rfl,q H1 e⟩) q⟩
def slD (d:D)(lo hi:Option Int)(Q:D->Prop):Prop:=match d with
 | .lst l=>Q (.lst (x9 l lo hi))
 | .tup l=>True/\Q (.tup (x9 l lo hi))
 | _=>False
theorem slD.mono {d:D}{lo hi:Option Int}{Q Q':D->Prop}(h:∀ d,Q d->Q' d):slD d lo hi Q->slD d lo hi Q':=by
 cases d <;> intro q <;> first | exact h _ q | exact ⟨q.1,h _ q.2⟩ | exact q
theorem D2:SlR X (fun x lo hi H Q=>∃ a xs,x = .ref a/\SqT X.K H a xs/\(HT.tM xs.length 0 lo=0/\HT.tM xs.length xs.length hi=xs.length)/\Q (.ref a) H):=by
 intro pins s σ H x v vl vu lo hi sl Q I rx hs pl pu h;obtain ⟨a,xs,e,hx,hw,q⟩:=h;subst e;cases rx;obtain ⟨its,r,ht,hz⟩:=I.tuple hx;have hlen:its.toArray.size=xs.length:=by rw [ai];exact r.length.symm
 exact ⟨"tuple",_,PyProof.Rows.slot_tuple_getitem.lookup,ht.typeIs,HT.vg ht hs pl pu (by rw [hlen];exact hw) ⟨.ref a,H,I,rfl,q⟩⟩
def dSl (a:TEd)(l u:TOd):TEd:=⟨fun ss Q=>a.run ss fun d=>l.run ss fun lo=>u.run ss fun hi=>slD d lo hi Q,fun h q=>a.mono (fun d q=>l.mono (fun lo q=>u.mono (fun hi q=>slD.mono h q) q) q) q⟩
theorem dSl.ok {lo hi:Option Expr}{tl tu:TOd}{p2:Pos}(ha:PE X a (LE X.K ta))(hl:PO X lo (LO X.K tl))(hu:PO X hi (LO X.K tu)):PE X (.Subscript a (.Slice lo hi none p2) pos) (LE X.K (dSl ta tl tu)):=by
 refine (Ev (pos:=pos) (p2:=p2) (sl_list.or (sl_tup.or D2)) ha hl hu).weak fun σ H Q ⟨f,O,ss,S,q⟩=>?_;refine ⟨f,O,ss,S,ta.mono (fun d q v H1 e1 r=>?_) q⟩;have S1:=S.ex e1;refine ⟨f,O,ss,S1,tl.mono (fun lo q H2 e2=>?_) q⟩;have S2:=S1.ex e2;refine ⟨f,O,ss,S2,tu.mono (fun hi q H3 e3=>?_) q⟩;have S3:=S2.ex e3;have r:=S2.up e3 (S1.up e2 r);cases d <;> first | exact False.elim q | skip
 ·have r':=r;obtain ⟨p,xs,rfl,h1,h2⟩:=r;by_cases hw:HT.tM xs.length 0 lo=0/\HT.tM xs.length xs.length hi=xs.length
  ·refine .inr (.inr ⟨p,xs,rfl,h1,hw,q.2 _ _ (e1.trans (e2.trans e3)) ?_⟩);unfold x9;rw [← h2.len,hw.1,hw.2,gF,bZ,h2.len,bM];exact r'
  ·exact .inr (.inl ⟨p,xs,rfl,h1,hw,fun p hp=>q.2 _ _ (e1.trans (e2.trans (e3.trans (S3.new hp _)))) (S3.tup hp (h2.cut _ _))⟩)
 ·rename_i l;obtain ⟨p,xs,rfl,_,h1,h2⟩:=r;exact .inl ⟨p,xs,rfl,SqL.of h1,fun p hp=>q _ _ (e1.trans (e2.trans (e3.trans (S3.new hp _)))) (S3.lst hp (h2.cut _ _))⟩
def qK (a:TEd):TEd:=⟨fun ss Q=>a.run ss fun d=>match d with | .lst l=>Q (.lst l.reverse) | _=>False,fun {ss Q Q'} h q=>a.mono (fun d q=>by
 revert q;cases d <;> first | exact h _ | exact id) q⟩
theorem qK.ok {j k:Nat}{p1 p2 p3:Pos}(ha:PE X a (LE X.K ta)):PE X (.Subscript a (.Slice none none (some (.UnaryOp .USub (.Constant (.int 1) j p1) p3)) p2) pos) (LE X.K (qK ta)):=by
 refine (Dc (pos:=pos) (p2:=p2) (Mh X.K) ha po_none po_none (Cg (HE (pos:=p3) DN (sU (j:=j) (pos:=p1))))).weak fun σ H Q ⟨f,O,ss,S,q⟩=>?_;refine ⟨f,O,ss,S,ta.mono (fun d q v H1 e1 r=>?_) q⟩;have S1:=S.ex e1;cases d <;> first | exact False.elim q | skip
 rename_i l;obtain ⟨p,xs,rfl,_,h1,h2⟩:=r;exact ⟨_,rfl,_,rfl,rfl,rfl,rfl,p,xs,rfl,SqL.of h1,fun p hp=>q _ _ (e1.trans (S1.new hp _)) (S1.lst hp h2.reverse)⟩
abbrev BD:=List D->(D->Prop)->Prop
def dB (o:BD)(m:∀ {ds Q Q'},(∀ d,Q d->Q' d)->o ds Q->o ds Q')(t:TAd):TEd:=⟨fun ss Q=>t.run ss fun ds=>o ds Q,fun h q=>t.mono (fun ds q=>m h q) q⟩
def RC (K:Frag)(r:List V->Hp->VK->Prop)(o:BD):Prop:=∀ (f:Addr) (O:List Addr) (σ:St) (ss:SS) (H:Hp) (ds:List D) (vs:List V) (Q:VK),SlD K f O σ H ss->Rps K f O H ds vs->o ds (fun d=>∀ v H',Ex f H H'->Rp K f O H' d v->Q v H')->r vs H Q
theorem dB.ok {e:Expr}{r:List V->Hp->VK->Prop}{o:BD}{m}{t:TAd}(hr:RC X.K r o)(h:PE X e (Ma r (LA X.K t))):PE X e (LE X.K (dB o m t)):=h.weak fun σ H Q ⟨f,O,ss,S,q⟩ =>
 ⟨f,O,ss,S,t.mono (fun ds q vs H1 e1 r1=>hr f O σ ss H1 ds vs Q (S.ex e1) r1 (m (fun d q v H' e r=>q v H' (e1.trans e) r) q)) q⟩
def RB (X:Cx)(g:Value)(o:BD):Prop:=∃ r,CallR X g r/\RC X.K r o
theorem CallR.or2 {g:Value}{r r':List V->Hp->VK->Prop}(h:CallR X g r)(h':CallR X g r'):CallR X g (fun xs H Q=>r xs H Q\/r' xs H Q):=fun pins s σ H xs us Q I rx q=>q.elim (h pins s σ H xs us Q I rx) (h' pins s σ H xs us Q I rx)
def bLen:BD
 | [.lst l],Q=>Q (.int l.length)
 | [.tup l],Q=>Q (.int l.length)
 | [.str z],Q=>z.length<=sizeLine/\Q (.int z.length)
 | _,_=>False
def bAbs:BD
 | [.int i],Q=>Q (.int (if i<0 then -i else i))
 | _,_=>False
def bAll:BD
 | [.lst l],Q=>∃ bs:List Bool,l=bs.map D.bl/\Q (.bl (bs.all id))
 | _,_=>False
def bSum:BD
 | [.lst l],Q=>∃ ns:List Int,l=ns.map D.int/\Q (.int ns.sum)
 | [.tup l],Q=>∃ ns:List Int,l=ns.map D.int/\Q (.int ns.sum)
 | _,_=>False
def bMax:BD
 | [.int i,.int j],Q=>Q (.int (if j > i then j else i))
 | [.lst l],Q=>∃ ns:List Int,l=ns.map D.int/\ns≠[]/\∀ M,M∈ns->(∀ a∈ns,a<=M)->Q (.int M)
 | _,_=>False
def bInt:BD
 | [.int i],Q=>Q (.int i)
 | [.bl k],Q=>Q (.int (if k then 1 else 0))
 | _,_=>False
def bTuple:BD
 | [.lst l],Q=>Q (.tup l)
 | [.tup l],Q=>Q (.tup l)
 | _,_=>False
end Dp
namespace Dp
open PySem L2
variable {K:Frag}{f:Addr}{O O':List Addr}{H H':Hp}{X:Cx}{σ:St}{ss:SS}{a b c:Expr}{ta tb tc:TEd}{tA tB:TTd}{pos:Pos}
theorem Rps.one {d:D}{vs:List V}(h:Rps K f O H [d] vs):∃ v,vs=[v]/\Rp K f O H d v:=by
 obtain ⟨v,r,e,h1,h2⟩:=h;cases (show r=[] from h2);exact ⟨v,e,h1⟩
theorem Rps.two {d d':D}{vs:List V}(h:Rps K f O H [d,d'] vs):∃ v v',vs=[v,v']/\Rp K f O H d v/\Rp K f O H d' v':=by
 obtain ⟨v,r,e,h1,h2⟩:=h;obtain ⟨w,e2,h3⟩:=Rps.one h2;subst e2;exact ⟨v,w,e,h1,h3⟩
theorem bLen.mono:∀ {ds Q Q'},(∀ d,Q d->Q' d)->bLen ds Q->bLen ds Q':=by
 intro ds Q Q' h;unfold bLen;split <;> first | exact h _ | exact fun q=>⟨q.1,h _ q.2⟩ | exact id
theorem bAbs.mono:∀ {ds Q Q'},(∀ d,Q d->Q' d)->bAbs ds Q->bAbs ds Q':=by
 intro ds Q Q' h;unfold bAbs;split <;> first | exact h _ | exact id
theorem bAll.mono:∀ {ds Q Q'},(∀ d,Q d->Q' d)->bAll ds Q->bAll ds Q':=by
 intro ds Q Q' h;unfold bAll;split <;> first | exact fun ⟨bs,e,q⟩=>⟨bs,e,h _ q⟩ | exact id
theorem bSum.mono:∀ {ds Q Q'},(∀ d,Q d->Q' d)->bSum ds Q->bSum ds Q':=by
 intro ds Q Q' h;unfold bSum;split <;> first | exact fun ⟨bs,e,q⟩=>⟨bs,e,h _ q⟩ | exact id
theorem bMax.mono:∀ {ds Q Q'},(∀ d,Q d->Q' d)->bMax ds Q->bMax ds Q':=by
 intro ds Q Q' h;unfold bMax;split <;> first | exact h _ | exact fun ⟨bs,e,n,q⟩=>⟨bs,e,n,fun M m l=>h _ (q M m l)⟩ | exact id
theorem bInt.mono:∀ {ds Q Q'},(∀ d,Q d->Q' d)->bInt ds Q->bInt ds Q':=by
 intro ds Q Q' h;unfold bInt;split <;> first | exact h _ | exact id
theorem bTuple.mono:∀ {ds Q Q'},(∀ d,Q d->Q' d)->bTuple ds Q->bTuple ds Q':=by
 intro ds Q Q' h;unfold bTuple;split <;> first | exact h _ | exact id
theorem Ee:RB X (.builtin "len") bLen:=by
 refine ⟨_,CallR.or2 (Jz X.K) zI,fun f O σ ss H ds vs Q S r h=>?_⟩;unfold bLen at h;split at h
 ·obtain ⟨v,rfl,p,xs,rfl,_,h1,h2⟩:=Rps.one r;refine .inl ⟨p,xs,rfl,.inl (SqL.of h1),?_⟩;rw [h2.len];exact h _ H (Ex.refl S.fl) rfl
 ·obtain ⟨v,rfl,p,xs,rfl,h1,h2⟩:=Rps.one r;refine .inl ⟨p,xs,rfl,.inr h1,?_⟩;rw [h2.len];exact h _ H (Ex.refl S.fl) rfl
 ·obtain ⟨v,rfl,e⟩:=Rps.one r;cases e;exact .inr ⟨_,rfl,h.1,h.2 _ H (Ex.refl S.fl) rfl⟩
 ·exact h.elim
theorem IU:RB X (.builtin "abs") bAbs:=by
 refine ⟨_,Fw,fun f O σ ss H ds vs Q S r h=>?_⟩;unfold bAbs at h;split at h
 ·obtain ⟨v,rfl,e⟩:=Rps.one r;cases e;exact ⟨_,rfl,h _ H (Ex.refl S.fl) rfl⟩
 ·exact h.elim
theorem IT (hc:X.calm=true):RB X (.builtin "all") bAll:=by
 refine ⟨_,MJ X.K hc,fun f O σ ss H ds vs Q S r h=>?_⟩;unfold bAll at h;split at h
 ·obtain ⟨bs,rfl,h⟩:=h;obtain ⟨v,rfl,p,xs,rfl,_,h1,h2⟩:=Rps.one r;cases h2.bls;exact ⟨p,bs,rfl,SqL.of h1,h _ H (Ex.refl S.fl) rfl⟩
 ·exact h.elim
theorem Me (K:Frag)(hc:X.calm=true:=by rfl)(hK:X.K=K:=by rfl):CallR X (.builtin "sum") (fun xs H Q=>∃ p,∃ ns:List Int,xs=[.ref p]/\SqT K H p (ns.map V.int)/\Q (.int ns.sum) H):=by
 subst hK;intro pins s σ H xs us Q I rv h;obtain ⟨p,ns,rfl,hp,q⟩:=h;obtain ⟨u,rfl,ru⟩:=rv.one;cases ru;obtain ⟨its,rv',pl,_⟩:=I.tuple hp;obtain ⟨ys,e1,e2⟩:=u4 rv';subst e1;have hl:s.heap.IsTuple p (intItems ys.toArray):=by
  have:intItems ys.toArray=(ys.map (fun p=>Value.int p.1 p.2)).toArray:=by simp [intItems]
  rw [this];exact pl
 refine PySem.W.ktm_sumG (I.ok.hd hc) hl fun h' tk t' hk=>?_;refine ⟨.int _,H,I.kept (t':=tk) hk,⟨t',rfl⟩,?_⟩;have:preSum (numAt ys.toArray) ys.toArray.size=ns.sum:=by
  have e:numAt ys.toArray=fun i=>ns.getD i 0:=by
   funext i;rw [numAt_eq,← e2]
  have l:ys.toArray.size=ns.length:=by rw [← e2];simp
  rw [e,l,wf ns _ (am _),bM]
 rw [this];exact q
theorem IQ (hc:X.calm=true):RB X (.builtin "sum") bSum:=by
 refine ⟨_,CallR.or2 (Mf X.K hc) (Me X.K hc),fun f O σ ss H ds vs Q S r h=>?_⟩;unfold bSum at h;split at h
 ·obtain ⟨bs,rfl,h⟩:=h;obtain ⟨v,rfl,p,xs,rfl,_,h1,h2⟩:=Rps.one r;cases h2.ints;exact .inl ⟨p,bs,rfl,SqL.of h1,h _ H (Ex.refl S.fl) rfl⟩
 ·obtain ⟨bs,rfl,h⟩:=h;obtain ⟨v,rfl,p,xs,rfl,h1,h2⟩:=Rps.one r;cases h2.ints;exact .inr ⟨p,bs,rfl,h1,h _ H (Ex.refl S.fl) rfl⟩
 ·exact h.elim
theorem IR (hc:X.calm=true):RB X (.builtin "max") bMax:=by
 refine ⟨_,CallR.or2 (DD hc) (Mq X.K hc),fun f O σ ss H ds vs Q S r h=>?_⟩;unfold bMax at h;split at h
 ·obtain ⟨v,v',rfl,e1,e2⟩:=Rps.two r;cases e1;cases e2;exact .inl ⟨_,_,rfl,h _ H (Ex.refl S.fl) rfl⟩
 ·obtain ⟨bs,rfl,n,h⟩:=h;obtain ⟨v,rfl,p,xs,rfl,_,h1,h2⟩:=Rps.one r;cases h2.ints;exact .inr ⟨p,bs,rfl,SqL.of h1,n,fun M m l=>h M m l _ H (Ex.refl S.fl) rfl⟩
 ·exact h.elim
theorem IS:RB X (.type "int") bInt:=by
 refine ⟨_,DE,fun f O σ ss H ds vs Q S r h=>?_⟩;unfold bInt at h;split at h
 ·obtain ⟨v,rfl,e⟩:=Rps.one r;cases e;exact .inl ⟨_,rfl,h _ H (Ex.refl S.fl) rfl⟩
 ·obtain ⟨v,rfl,e⟩:=Rps.one r;cases e;exact .inr ⟨_,rfl,h _ H (Ex.refl S.fl) rfl⟩
 ·exact h.elim
theorem Ec:RB X (.type "tuple") bTuple:=by
 refine ⟨_,FV X.K,fun f O σ ss H ds vs Q S r h=>?_⟩;unfold bTuple at h;split at h
 ·obtain ⟨v,rfl,p,xs,rfl,_,h1,h2⟩:=Rps.one r;exact ⟨p,xs,rfl,.inl ⟨SqL.of h1,fun l hl=>h _ _ (S.new hl _) (S.tup hl h2)⟩⟩
 ·obtain ⟨v,rfl,p,xs,rfl,h1,h2⟩:=Rps.one r;exact ⟨p,xs,rfl,.inr ⟨h1,h _ H (Ex.refl S.fl) ⟨p,xs,rfl,h1,h2⟩⟩⟩
 ·exact h.elim
def EE (p:List Int×Int):D:=.tup [.tup (p.1.map .int),.int p.2]
theorem Cm:∀ (as:List Int),D.dvs (as.map D.int)=as.map DV.int
 | []=>rfl
 | a::as=>congrArg (DV.int a :: ·) (Cm as)
theorem Jl (p:List Int×Int):(EE p).dv=AW p:=by
 show DV.tup [DV.tup (D.dvs (p.1.map D.int)),DV.int p.2]=_;rw [Cm];rfl
theorem Jk (p:List Int×Int):(EE p).pl=true:=by
 show (D.pls (p.1.map D.int) && true)=true;rw [D.pls_ints];rfl
theorem Cl:∀ (ps:List (List Int×Int)),D.dvs (ps.map EE)=ps.map AW
 | []=>rfl
 | p::ps=>by
  show (EE p).dv::D.dvs (ps.map EE)=AW p::ps.map AW;rw [Jl,Cl ps]
theorem vW:∀ (ps:List (List Int×Int)),D.pls (ps.map EE)=true
 | []=>rfl
 | p::ps=>ay.mpr ⟨Jk p,vW ps⟩
theorem Af:∀ {as:List Int} {vs:List V},Reps K H (as.map .int) vs->Rps K f O H (as.map .int) vs
 | [],_,h=>h
 | a::as,_,h=>by
  unfold List.map Reps at h;obtain ⟨v,r,e,h1,h2⟩:=h;exact ⟨v,r,e,h1,Af h2⟩
theorem Cb:∀ {ps:List (List Int×Int)} {vs:List V},Reps K H (ps.map AW) vs->Rps K f O H (ps.map EE) vs
 | [],_,h=>h
 | p::ps,_,h=>by
  unfold List.map Reps at h;obtain ⟨v,r,e,h1,h2⟩:=h;unfold AW Rep at h1;obtain ⟨a,xs,ev,t,h1⟩:=h1;unfold Reps at h1;obtain ⟨x,r1,e1,h1,h3⟩:=h1;unfold Rep at h1;obtain ⟨b,ys,eb,t1,h1⟩:=h1;exact ⟨v,r,e,⟨a,xs,ev,t,x,r1,e1,⟨b,ys,eb,t1,Af h1⟩,h3⟩,Cb h2⟩
def bSorted:BD
 | [.lst l],Q=>∃ ps:List (List Int×Int),l=ps.map EE/\ps.length<=2/\Q (.lst ((F1 ps).map EE))
 | _,_=>False
theorem bSorted.mono:∀ {ds Q Q'},(∀ d,Q d->Q' d)->bSorted ds Q->bSorted ds Q':=by
 intro ds Q Q' h;unfold bSorted;split <;> first | exact fun ⟨bs,e,n,q⟩=>⟨bs,e,n,h _ q⟩ | exact id
theorem DF:bootBuiltins "sorted" = some (.builtin "sorted"):=by decide +kernel
theorem C6 {k:Nat}(hr:Room k X.A):RB X (.builtin "sorted") bSorted:=by
 refine ⟨_,AQ X.K hr,fun f O σ ss H ds vs Q S r h=>?_⟩;unfold bSorted at h;split at h
 ·obtain ⟨ps,rfl,n,h⟩:=h;obtain ⟨v,rfl,r1⟩:=Rps.one r;have rep:Rep X.K H (.lst (ps.map AW)) v:=by
   have:=Rp.rep (show (D.lst (ps.map EE)).pl=true from vW ps) r1;rw [show (D.lst (ps.map EE)).dv = .lst (ps.map AW) from congrArg DV.lst (Cl ps)] at this;exact this
  obtain ⟨p,xs,rfl,_,h1,h2⟩:=r1;exact ⟨p,ps,rfl,rep,n,fun l ys hl ry=>h _ _ (S.new hl _) (S.lst hl (Cb ry))⟩
 ·exact h.elim
structure BB where
 run:BD
 mono:∀ {ds Q Q'},(∀ d,Q d->Q' d)->run ds Q->run ds Q'
def me (i:Nat):TEd:=⟨fun ss Q=>match ss[i]? with | some (.val d)=>bLen [d] Q | some (.own l)=>Q (.int l.length) | _=>False,fun {ss Q Q'} h q=>by
 revert q;split
 ·exact bLen.mono h
 ·exact h _
 ·exact id⟩
theorem me.ok {i:Nat} {p:Pos} (hg:Gl X "len") (hm:X.mg "len" = none) (ha:PE X a (vz i)) (hs:starEach [a] X.env=[(false,eval a X.env)]):PE X (.Call (.Name "len" p) [a] [] pos) (LE X.K (me i)):=by
 obtain ⟨r,h1,h2⟩:=Ee (X:=X);refine (xA (p:=p) (pos:=pos) (CallR.or2 h1 (Jz X.K)) hg hm BT (sZ ha pa_nil hs) (by decide) (by decide) hs rfl).weak fun σ H Q ⟨f,O,ss,S,q⟩=>?_;have q:(match ss[i]? with | some (.val d)=>bLen [d] (fun d=>∀ v H',Ex f H H'->Rp X.K f O H' d v->Q v H') | some (.own l)=>(∀ v H',Ex f H H'->Rp X.K f O H' (.int l.length) v->Q v H') | _=>False):=q;split at q
 ·rename_i d e;obtain ⟨v,w1,w2⟩:=S.val i d e;exact ⟨v,w1,.inl (h2 f O σ ss H [d] [v] Q S ⟨v,[],rfl,w2,rfl⟩ q)⟩
 ·rename_i l e;obtain ⟨p0,xs,w1,w2,w3,w4,w5⟩:=S.own i l e;refine ⟨_,w1,.inr ⟨p0,xs,rfl,.inl (SqL.of w4),?_⟩⟩;rw [w5.len];exact q _ H (Ex.refl S.fl) rfl
 ·exact q.elim
structure SpB where
 n:Nat
 run:MN
 mono:∀ {ds Q Q'},(∀ d,Q d->Q' d)->run ds Q->run ds Q'
def SpB.of (n:Nat){α:Type}(pre:α->List D->Prop)(post:α->D->Prop):SpB:=⟨n,fun ds Q=>∃ x,pre x ds/\∀ d,post x d->Q d,fun h ⟨x,p,q⟩=>⟨x,p,fun d r=>h _ (q d r)⟩⟩
def iK (s:SpB)(t:TAd):TEd:=⟨fun ss Q=>t.run ss fun ds=>ds.length=s.n/\s.run ds Q,fun h q=>t.mono (fun ds q=>⟨q.1,s.mono h q.2⟩) q⟩
theorem iK.ok {e:Expr}{s:SpB}{t:TAd}(h:PE X e (z8 (BY X.K s.n s.run) [] E0 (LA X.K t))):PE X e (LE X.K (iK s t)):=h.weak fun σ H Q ⟨f,O,ss,S,q⟩ =>
 ⟨f,O,ss,S,t.mono (fun ds q vs H1 e1 r1=>by
  have S1:=S.ex e1;refine ⟨by rw [cL,r1.len];exact q.1,f,O,ds,S1.fl,S1.fO,S1.al,S1.lO,by rw [cL];exact r1,?_⟩;exact s.mono (fun d q v H' e r=>q v H' (e1.trans e) r) q.2) q⟩
end Dp
namespace Dp
open PySem L2
variable {K:Frag}{f:Addr}{O O':List Addr}{H H':Hp}{X:Cx}{σ:St}{ss:SS}{a b c:Expr}{ta tb tc:TEd}{tA tB:TTd}{pos:Pos}
mutual
theorem Rp.moved (e:∀ a∈O',a∈O\/H a=none)(k:Kp O H H')(hO:∀ b∈O,∃ xs,H b=some (.lst xs)):∀ {d:D} {v:V},Rp K f O H d v->Rp K f O' H' d v
 | .non,_,h=>h
 | .bl _,_,h=>h
 | .int _,_,h=>h
 | .str _,_,h=>h
 | .fl,_,h=>h
 | .tup l,v,h=>by
  obtain ⟨a,xs,e1,h1,h2⟩:=h;exact ⟨a,xs,e1,h1.kp k hO,Rps.moved e k hO h2⟩
 | .lst l,v,h=>by
  obtain ⟨a,xs,e1,n,h1,h2⟩:=h;refine ⟨a,xs,e1,fun z=>?_,k a _ n h1,Rps.moved e k hO h2⟩;rcases e a z with q | q
  ·exact n q
  ·rw [h1] at q;cases q
 | .exn C x l,v,h=>by
  obtain ⟨a,us,e1,h1,h2⟩:=h;exact ⟨a,us,e1,h1.kp k hO,Rps.moved e k hO h2⟩
theorem Rps.moved (e:∀ a∈O',a∈O\/H a=none)(k:Kp O H H')(hO:∀ b∈O,∃ xs,H b=some (.lst xs)):∀ {ds:List D} {vs:List V},Rps K f O H ds vs->Rps K f O' H' ds vs
 | [],_,h=>h
 | d::ds,_,h=>by
  obtain ⟨v,r,e1,h1,h2⟩:=h;exact ⟨v,r,e1,Rp.moved e k hO h1,Rps.moved e k hO h2⟩
end
structure ItD (K:Frag)(f:Addr)(O:List Addr)(J:It)(H1:Hp)(ds:List D):Prop where
 go:∀ H' i,Kp O H1 H'->i<ds.length->J.go i H'
 yld:∀ O' H' i x H'',(∀ a∈O',a∈O\/H1 a=none)->f∈O'->(∀ a∈O',∃ xs,H' a=some (.lst xs))->Kp O H1 H'->Fl H' f->i<ds.length->J.yld i H' x H''->∃ d,ds[i]? = some d/\Ex f H' H''/\Rp K f O' H'' d x
 stop:∀ H',Kp O H1 H'->J.stop ds.length H'
def LI (K:Frag)(t:TAd):TI:=fun σ H R=>∃ f O ss,SlD K f O σ H ss/\t.run ss fun ds=>∀ J H1,Ex f H H1->ItD K f O J H1 ds->R J H1
theorem _root_.L2.PI.weak {tg e:Expr}{t t':TI}(h:PI X tg e t)(w:∀ σ H Q,t' σ H Q->t σ H Q):PI X tg e t':=fun pins s σ H Q I q=>h pins s σ H Q I (w σ H Q q)
def itemsD:D->(List D->Prop)->Prop
 | .lst l,Q=>Q l
 | .tup l,Q=>Q l
 | _,_=>False
theorem itemsD.mono {d:D}{Q Q':List D->Prop}(h:∀ d,Q d->Q' d):itemsD d Q->itemsD d Q':=by
 cases d <;> first | exact h _ | exact id
def i5 (t:TEd):TAd:=⟨fun ss Q=>t.run ss fun d=>itemsD d Q,fun h q=>t.mono (fun d q=>itemsD.mono h q) q⟩
theorem i5.ok {tg:Expr}(h:PE X a (LE X.K ta)):PI X tg a (LI X.K (i5 ta)):=(No X.K h).weak fun σ H R ⟨f,O,ss,S,q⟩=>⟨f,O,ss,S,ta.mono (fun d q v H1 e r=>by
 have S1:=S.ex e;cases d <;> first | exact False.elim q | skip
 ·rename_i l;obtain ⟨p,xs,rfl,h1,h2⟩:=r;refine ⟨p,rfl,.inr ⟨⟨xs,h1⟩,q _ H1 e ⟨fun H' i k hi=>?_,fun O' H' i x H'' hO hf al k F hi y=>?_,fun H' k=>?_⟩⟩⟩
  ·obtain ⟨v,hv,_⟩:=h2.get (show l[i]? = some l[i] by simp [hi]);exact ⟨xs,v,h1.kp k S1.al,hv⟩
  ·obtain ⟨rfl,y⟩:=y;obtain ⟨v,hv,r⟩:=h2.get (show l[i]? = some l[i] by simp [hi]);have:=y xs (h1.kp k S1.al);rw [hv] at this;cases this;exact ⟨l[i],by simp [hi],Ex.refl F,r.moved hO k S1.al⟩
  ·exact ⟨xs,h1.kp k S1.al,by rw [h2.len];exact am _⟩
 ·rename_i l;obtain ⟨p,xs,rfl,n,h1,h2⟩:=r;refine ⟨p,rfl,.inl ⟨⟨xs,SqL.of h1⟩,q _ H1 e ⟨fun H' i k hi=>?_,fun O' H' i x H'' hO hf al k F hi y=>?_,fun H' k=>?_⟩⟩⟩
  ·obtain ⟨v,hv,_⟩:=h2.get (show l[i]? = some l[i] by simp [hi]);exact ⟨xs,v,SqL.of (k p _ n h1),hv⟩
  ·obtain ⟨rfl,y⟩:=y;obtain ⟨v,hv,r⟩:=h2.get (show l[i]? = some l[i] by simp [hi]);have:=y xs (SqL.of (k p _ n h1));rw [hv] at this;cases this;exact ⟨l[i],by simp [hi],Ex.refl F,r.moved hO k S1.al⟩
  ·exact ⟨xs,SqL.of (k p _ n h1),by rw [h2.len];exact am _⟩) q⟩
def ve (lo:Int)(n:Nat):List D:=(List.range n).map fun i=>.int (lo+(i:Nat))
theorem tq {lo:Int}{n:Nat}:(ve lo n).length=n:=by simp [ve]
theorem zZ {lo:Int}{n i:Nat}(h:i<n):(ve lo n)[i]? = some (.int (lo+(i:Nat))):=by simp [ve,h]
theorem tK {lo:Int}{n i:Nat}{d:D}(h:(ve lo n)[i]? = some d):i<n/\d = .int (lo+(i:Nat)):=by
 have:=(aj.mp h).1;rw [tq] at this;rw [zZ this] at h;exact ⟨this,(Option.some.inj h).symm⟩
theorem CC {lo:Int}{n:Nat}{H1:Hp}:ItD K f O (Lx lo n) H1 (ve lo n):=by
 refine ⟨fun H' i k hi=>?_,fun O' H' i x H'' hO hf al k F hi y=>?_,fun H' k=>?_⟩
 ·rw [tq] at hi;exact hi
 ·obtain ⟨rfl,rfl⟩:=y;rw [tq] at hi;exact ⟨_,zZ hi,Ex.refl F,rfl⟩
 ·rw [tq];exact am _
def rngD:D->(List D->Prop)->Prop
 | .int j,Q => -(2^62)<=j/\j<2^62/\Q (ve 0 j.toNat)
 | _,_=>False
theorem rngD.mono {d:D}{Q Q':List D->Prop}(h:∀ d,Q d->Q' d):rngD d Q->rngD d Q':=by
 cases d <;> first | exact fun q=>⟨q.1,q.2.1,h _ q.2.2⟩ | exact id
def rngD2:D->D->(List D->Prop)->Prop
 | .int i,.int j,Q=>(-(2^62)<=i/\i<2^62 /\ -(2^62)<=j/\j<2^62)/\Q (ve i (j-i).toNat)
 | _,_,_=>False
theorem rngD2.mono {d d':D}{Q Q':List D->Prop}(h:∀ d,Q d->Q' d):rngD2 d d' Q->rngD2 d d' Q':=by
 cases d <;> cases d' <;> first | exact fun q=>⟨q.1,h _ q.2⟩ | exact id
def ms (t:TEd):TAd:=⟨fun ss Q=>t.run ss fun d=>rngD d Q,fun h q=>t.mono (fun d q=>rngD.mono h q) q⟩
def kH (t u:TEd):TAd:=⟨fun ss Q=>t.run ss fun d=>u.run ss fun d'=>rngD2 d d' Q,fun h q=>t.mono (fun d q=>u.mono (fun d' q=>rngD2.mono h q) q) q⟩
theorem ms.ok {tg:Expr} {p:Pos} (hg:Gl X "range") (hm:X.mg "range" = none) (ha:PE X a (LE X.K ta)) (hs:starEach [a] X.env=[(false,eval a X.env)]):PI X tg (.Call (.Name "range" p) [a] [] pos) (LI X.K (ms ta)) :=
 (Db (p:=p) (pos:=pos) hg hm (sZ ha pa_nil hs) hs).weak fun σ H R ⟨f,O,ss,S,q⟩=>⟨f,O,ss,S,ta.mono (fun d q v H1 e r=>by
  cases d <;> first | exact False.elim q | skip
  cases (show v=_ from r);exact ⟨_,rfl,q.1,q.2.1,q.2.2 _ H1 e CC⟩) q⟩
theorem kH.ok {tg:Expr} {p:Pos} (hg:Gl X "range") (hm:X.mg "range" = none) (ha:PE X a (LE X.K ta)) (hb:PE X b (LE X.K tb)) (hs:starEach [a,b] X.env=[(false,eval a X.env),(false,eval b X.env)]) (hs2:starEach [b] X.env=[(false,eval b X.env)]):PI X tg (.Call (.Name "range" p) [a,b] [] pos) (LI X.K (kH ta tb)) :=
 (Da (p:=p) (pos:=pos) hg hm (sZ ha (sZ hb pa_nil hs2) (by rw [hs,hs2])) hs hs2).weak fun σ H R ⟨f,O,ss,S,q⟩=>⟨f,O,ss,S,ta.mono (fun d q v H1 e r=>⟨f,O,ss,S.ex e,tb.mono (fun d' q v' H2 e2 r'=>by
  cases d <;> cases d' <;> first | exact False.elim q | skip
  cases (show v=_ from r);cases (show v'=_ from r');exact ⟨_,_,rfl,q.1,q.2 _ H2 (e.trans e2) CC⟩) q⟩) q⟩
def Sub (σ:St)(ss:SS)(σ':St)(ss':SS):Prop:=∀ (i:Nat) (l:List D),ss'[i]? = some (SD.own l)->ss[i]? = some (SD.own l)/\σ'[i]? = σ[i]?
theorem Sub.refl:Sub σ ss σ ss:=fun _ _ h=>⟨h,rfl⟩
theorem Sub.trans {σ1 σ2:St}{s1 s2:SS}(h:Sub σ ss σ1 s1)(k:Sub σ1 s1 σ2 s2):Sub σ ss σ2 s2:=fun i l q=>by
 obtain ⟨q1,e1⟩:=k i l q;obtain ⟨q2,e2⟩:=h i l q1;exact ⟨q2,e1.trans e2⟩
def Agr (T:List Nat)(σ σ':St):Prop:=σ'.length=σ.length/\∀ j,j ∉ T->σ'[j]? = σ[j]?
theorem Agr.refl {T:List Nat}:Agr T σ σ:=⟨rfl,fun _ _=>rfl⟩
theorem Agr.set {T:List Nat}{i:Nat}{v:Option V}(h:i∈T):Agr T σ (σ.set i v):=⟨bu,fun j n=>aK (by rintro rfl;exact n h)⟩
theorem Agr.trans {T:List Nat}{σ1 σ2:St}(a:Agr T σ σ1)(b:Agr T σ1 σ2):Agr T σ σ2:=⟨b.1.trans a.1,fun j n=>(b.2 j n).trans (a.2 j n)⟩
def LG (K:Frag)(t:TGd):TG:=fun v σ H Q=>∃ f O ss d,SlD K f O σ H ss/\Rp K f O H d v/\t.run d ss fun ss'=>∀ σ' H',Ex f H H'->SlD K f O σ' H' ss'->Sub σ ss σ' ss'->Agr t.tg σ σ'->Q σ' H'
theorem SlD.set (S:SlD K f O σ H ss){i:Nat}{d:D}{v:V}(r:Rp K f O H d v):SlD K f O (σ.set i (some v)) H (ss.set i (.val d)) where
 fl:=S.fl
 fO:=S.fO
 al:=S.al
 lO:=S.lO
 len:=by rw [bu,bu,S.len]
 val:=fun j d' h=>by
  by_cases z:i=j
  ·subst z;rw [aN] at h;rw [if_pos rfl] at h;split at h
   ·cases h;rename_i l;exact ⟨v,by rw [aN,if_pos rfl,if_pos (by rw [← S.len];exact l)],r⟩
   ·cases h
  ·rw [aK z] at h ⊢;exact S.val j d' h
 own:=fun j l h=>by
  by_cases z:i=j
  ·subst z;rw [aN] at h;rw [if_pos rfl] at h;split at h <;> cases h
  ·rw [aK z] at h ⊢;exact S.own j l h
theorem Sub.set {i:Nat}{d:D}{v:Option V}:Sub σ ss (σ.set i v) (ss.set i (.val d)):=fun j l h=>by
 by_cases z:i=j
 ·subst z;rw [aN] at h;rw [if_pos rfl] at h;split at h <;> cases h
 ·rw [aK z] at h ⊢;exact ⟨h,rfl⟩
def gNm (i:Nat):TGd:=⟨[i],fun d ss Q=>Q (ss.set i (.val d)),fun h q=>h _ q⟩
theorem _root_.L2.PG.weak {e:Expr}{t t':TG}(h:PG X e t)(w:∀ v σ H Q,t' v σ H Q->t v σ H Q):PG X e t':=fun pins s σ H v u Q I r q=>h pins s σ H v u Q I r (w _ σ H Q q)
end Dp
namespace Dp
open PySem L2
variable {K:Frag}{f:Addr}{O O':List Addr}{H H':Hp}{X:Cx}{σ:St}{ss:SS}{a b c:Expr}{ta tb tc:TEd}{tA tB:TTd}{pos:Pos}
theorem gNm.ok {i:Nat}{e:Expr}(h:PG X e (yx i)):PG X e (LG X.K (gNm i)):=h.weak fun v σ H Q ⟨f,O,ss,d,S,r,q⟩=>q _ H (Ex.refl S.fl) (S.set r) Sub.set (Agr.set ar)
def xq (ss:SS):List Nat->List D->SS
 | i::is,d::ds=>xq (ss.set i (.val d)) is ds
 | _,_=>ss
def gsAll:List Nat->Ip
 | []=>K9
 | i::is=>H9 (yx i) (gsAll is)
def u6 (σ:St):List Nat->List V->St
 | i::is,v::vs=>u6 (σ.set i (some v)) is vs
 | _,_=>σ
theorem gsAll.run {Q:St->Hp->Prop}:∀ {is:List Nat} {vs:List V} {σ:St},vs.length=is.length->Q (u6 σ is vs) H->gsAll is vs σ H Q
 | [],[],σ,_,q=>⟨rfl,q⟩
 | [],_::_,_,l,_=>by cases l
 | _::_,[],_,l,_=>by cases l
 | i::is,v::vs,σ,l,q=>⟨v,vs,rfl,gsAll.run (by simpa using l) q⟩
theorem SlD.all:∀ {is:List Nat} {vs:List V} {ds:List D} {σ:St} {ss:SS},SlD K f O σ H ss->Rps K f O H ds vs->SlD K f O (u6 σ is vs) H (xq ss is ds)
 | [],_,_,_,_,S,_=>S
 | i::is,[],[],_,_,S,_=>S
 | i::is,vs,[],_,_,S,r=>by cases (show vs=[] from r);exact S
 | i::is,vs,d::ds,σ,ss,S,r=>by
  obtain ⟨v,r',e,h1,h2⟩:=r;subst e;show SlD K f O (u6 (σ.set i (some v)) is r') H (xq (ss.set i (.val d)) is ds);exact SlD.all (S.set h1) h2
theorem Sub.all:∀ {is:List Nat} {vs:List V} {ds:List D} {σ:St} {ss:SS},vs.length=ds.length->Sub σ ss (u6 σ is vs) (xq ss is ds)
 | [],_,_,_,_,_=>Sub.refl
 | i::is,[],[],_,_,_=>Sub.refl
 | i::is,_::_,[],_,_,l=>by cases l
 | i::is,[],_::_,_,_,l=>by cases l
 | i::is,v::vs,d::ds,σ,ss,l=>Sub.trans Sub.set (Sub.all (by simpa using l))
theorem Agr.all:∀ {is T:List Nat} {vs:List V} {σ:St},(∀ i∈is,i∈T)->Agr T σ (u6 σ is vs)
 | [],_,_,_,_=>Agr.refl
 | _::_,_,[],_,_=>Agr.refl
 | i::is,T,v::vs,σ,h=>Agr.trans (Agr.set (h i ar)) (Agr.all fun j hj=>h j (aw _ hj))
def gTp (is:List Nat):TGd:=⟨is,fun d ss Q=>match d with | .tup l=>l.length=is.length/\Q (xq ss is l) | _=>False,fun {d ss Q Q'} h q=>by
 revert q;cases d <;> first | exact id | exact fun q=>⟨q.1,h _ q.2⟩⟩
theorem gTp.ok {is:List Nat}{e:Expr}(h:PG X e (K7 X.K is.length (gsAll is))):PG X e (LG X.K (gTp is)):=h.weak fun v σ H Q ⟨f,O,ss,d,S,r,q⟩=>by
 cases d <;> first | exact False.elim q | skip
 rename_i l;obtain ⟨p,xs,rfl,h1,h2⟩:=r;exact ⟨p,xs,rfl,h1,h2.len.trans q.1,gsAll.run (h2.len.trans q.1) (q.2 _ H (Ex.refl S.fl) (S.all h2) (Sub.all h2.len) (Agr.all fun _ h=>h))⟩
def t7 (l:List D):List D:=(List.range l.length).map fun i=>.tup [.int ((i:Nat):Int),l.getD i .non]
theorem tj {l:List D}:(t7 l).length=l.length:=by simp [t7]
theorem wx {l:List D}{i:Nat}(h:i<l.length):(t7 l)[i]? = some (.tup [.int ((i:Nat):Int),l.getD i .non]):=by simp [t7,h]
theorem yA {l:List D}{i:Nat}{d:D}(h:(t7 l)[i]? = some d):∃ x,l[i]? = some x/\d = .tup [.int ((i:Nat):Int),x]:=by
 have hi:=(aj.mp h).1;rw [tj] at hi;rw [wx hi] at h;refine ⟨l[i],by simp [hi],(Option.some.inj h).symm.trans ?_⟩;rw [ac,aq hi];rfl
def jg (t:TEd):TAd:=⟨fun ss Q=>t.run ss fun d=>itemsD d fun l=>Q (t7 l),fun h q=>t.mono (fun d q=>itemsD.mono (fun l q=>h _ q) q) q⟩
def m5 (t:TEd):TAd:=⟨fun ss Q=>t.run ss fun d=>itemsD d fun l=>Q l.reverse,fun h q=>t.mono (fun d q=>itemsD.mono (fun l q=>h _ q) q) q⟩
def xL (hide:List Nat)(ss:SS):SS:=hide.foldl (fun s i=>s.set i .no) ss
theorem SlD.blank (S:SlD K f O σ H ss){i:Nat}{o:Option V}:SlD K f O (σ.set i o) H (ss.set i .no) where
 fl:=S.fl
 fO:=S.fO
 al:=S.al
 lO:=S.lO
 len:=by rw [bu,bu,S.len]
 val:=fun j d' h=>by
  by_cases z:i=j
  ·subst z;rw [aN] at h;rw [if_pos rfl] at h;split at h <;> cases h
  ·rw [aK z] at h ⊢;exact S.val j d' h
 own:=fun j l h=>by
  by_cases z:i=j
  ·subst z;rw [aN] at h;rw [if_pos rfl] at h;split at h <;> cases h
  ·rw [aK z] at h ⊢;exact S.own j l h
theorem SlD.hide:∀ {hide:List Nat} {σ:St} {ss:SS},SlD K f O σ H ss->SlD K f O (wP hide σ) H (xL hide ss)
 | [],_,_,S=>S
 | i::r,σ,ss,S=>SlD.hide (hide:=r) (S.blank (i:=i) (o:=none))
theorem AD:∀ {hide:List Nat} {ss:SS} {i:Nat},(i∈hide\/ss[i]? = some SD.no\/ss[i]? = none)->(xL hide ss)[i]? = some SD.no\/(xL hide ss)[i]? = none
 | [],ss,i,h=>by
  rcases h with h | h
  ·cases h
  ·exact h
 | j::r,ss,i,h=>by
  refine AD (hide:=r) (ss:=ss.set j .no) ?_;by_cases z:j=i
  ·subst z;right;rw [aN,if_pos rfl];split
   ·exact .inl rfl
   ·exact .inr rfl
  ·rw [aK z];rcases h with h | h
   ·rcases au.mp h with q | q
    ·exact absurd q.symm z
    ·exact .inl q
   ·exact .inr h
theorem SlD.agr {T:List Nat}{σ':St}(S:SlD K f O σ H ss)(h:Agr T σ σ')(hT:∀ i∈T,ss[i]? = some SD.no\/ss[i]? = none):SlD K f O σ' H ss where
 fl:=S.fl
 fO:=S.fO
 al:=S.al
 lO:=S.lO
 len:=S.len.trans h.1.symm
 val:=fun j d q=>by
  rw [h.2 j fun z=>?_]
  ·exact S.val j d q
  ·rcases hT j z with w | w <;> rw [w] at q <;> cases q
 own:=fun j d q=>by
  rw [h.2 j fun z=>?_]
  ·exact S.own j d q
  ·rcases hT j z with w | w <;> rw [w] at q <;> cases q
def i9:TTd:=⟨fun _ Q=>Q true,fun h q=>h _ q⟩
def compD (ds:List D)(s0:SS)(g:TGd)(c:TTd)(e:TEd)(Q:D->Prop):Prop:=ds.length<=sizeLine/\∃ I:Nat->List D->Prop,I 0 [] /\
 (∀ i d ys,ds[i]? = some d->ys.length<=i->I i ys->g.run d s0 fun s1=>c.run s1 fun k=>if k=true then e.run s1 fun y=>I (i+1) (ys++[y]) else I (i+1) ys)/\∀ ys,ys.length<=ds.length->I ds.length ys->Q (.lst ys)
theorem compD.mono {ds:List D}{s0:SS}{g:TGd}{c:TTd}{e:TEd}{Q Q':D->Prop}(h:∀ d,Q d->Q' d):compD ds s0 g c e Q->compD ds s0 g c e Q':=fun ⟨l,I,q0,q1,q2⟩=>⟨l,I,q0,q1,fun ys l i=>h _ (q2 ys l i)⟩
def iT (it:TAd)(hide:List Nat)(g:TGd)(c:TTd)(e:TEd):TEd:=⟨fun ss Q=>it.run ss fun ds=>compD ds (xL hide ss) g c e Q,fun h q=>it.mono (fun ds q=>compD.mono h q) q⟩
theorem compD.ok {J:It}{ds:List D}{hide:List Nat}{g:TGd}{c:TTd}{e:TEd}{Q:VK}{H1:Hp}(S:SlD K f O σ H1 ss)(hg:∀ i∈g.tg,i∈hide)(D0:ItD K f O J H1 ds)(h:compD ds (xL hide ss) g c e fun d=>∀ v H',Ex f H1 H'->Rp K f O H' d v->Q v H') :
  Iq J (LG K g) (LT K c) (LE K e) (wP hide σ) Q H1:=by
 obtain ⟨hl,I,q0,q1,q2⟩:=h;refine ⟨fun k m τ ys H=>∃ yd,SlD K f O τ H (xL hide ss)/\Rps K f O H yd ys/\yd.length<=k/\I k yd/\m=ds.length-k/\k<=ds.length/\Ex f H1 H,⟨_,[],S.hide,rfl,am _,q0,rfl,aC _,Ex.refl S.fl⟩,?_⟩;rintro k m τ ys H ⟨yd,S1,r1,l1,i1,rfl,k1,e1⟩;have kp:=e1.kp S.fO;rcases ao k ds.length with hk | hk
 ·refine .inr ⟨D0.go H k kp hk,by rw [r1.len];omega,fun x H' y=>?_⟩;obtain ⟨d,ed,e2,rd⟩:=D0.yld O H k x H' (fun a z=>.inl z) S.fO S1.al kp S1.fl hk y;have S2:=S1.ex e2;refine ⟨f,O,_,d,S2,rd,g.mono (fun s1 q τ2 H2 e3 S3 _ ag=>?_) (q1 k d yd ed l1 i1)⟩;have S3':SlD K f O τ2 H2 (xL hide ss):=(S2.ex e3).agr ag fun i hi=>AD (.inl (hg i hi));refine ⟨f,O,s1,S3,c.mono (fun b q H3 e4=>?_) q⟩;cases b with
  | true =>
   refine ⟨f,O,s1,S3.ex e4,e.mono (fun dy q v H4 e5 rv=>?_) q⟩;have e14:=e2.trans (e3.trans (e4.trans e5));exact ⟨ds.length-(k+1),by omega,yd++[dy],(S3'.ex e4).ex e5,(S1.ups e14 r1).append ⟨v,[],rfl,rv,rfl⟩,by rw [aD];simp;omega,q,rfl,hk,e1.trans e14⟩
  | false =>
   have e14:=e2.trans (e3.trans e4);exact ⟨ds.length-(k+1),by omega,yd,S3'.ex e4,S1.ups e14 r1,by omega,q,rfl,hk,e1.trans e14⟩
 ·have ek:k=ds.length:=by omega
  subst ek;exact .inl ⟨D0.stop H kp,fun p hp=>q2 yd l1 i1 _ _ (e1.trans (S1.new hp _)) (S1.lst hp r1)⟩
theorem iT.ok {scope:Scope}{hide:List Nat}{it:TAd}{g:TGd}{c:TTd}{e:TEd}{tg iter elt:Expr}{ifs:List Expr}(hc:X.calm=true)(Sc:CompS X.N X.env.scope scope hide)(hi:PI X tg iter (LI X.K it))
  (hg:∀ s2 H2 fp pins C,PG (vh X scope s2 H2 fp pins C) tg (LG X.K g)) (ht:∀ s2 H2 fp pins C,PTs (vh X scope s2 H2 fp pins C) ifs (LT X.K c)) (he:∀ s2 H2 fp pins C,PE (vh X scope s2 H2 fp pins C) elt (LE X.K e))
  (hs:∀ x,foldedSetIterable iter X.env x=pure x) (hh:∀ i∈g.tg,i∈hide):PE X (.ListComp elt [⟨tg,iter,ifs,0⟩] scope pos) (LE X.K (iT it hide g c e)) :=
 (Gh (pos:=pos) hc Sc hi hg ht he hs).weak fun σ H Q ⟨f,O,ss,S,q⟩=>⟨f,O,ss,S,it.mono (fun ds q J H1 e1 D0=>compD.ok (S.ex e1) hh D0 (compD.mono (fun d q v H' e r=>q v H' (e1.trans e) r) q)) q⟩
end Dp
namespace Dp
open PySem L2
variable {K:Frag}{f:Addr}{O O':List Addr}{H H':Hp}{X:Cx}{σ:St}{ss:SS}{a b:Expr}{ta tb tc:TEd}{tA tB:TTd}{pos:Pos}
theorem jg.ok {es:List Expr} {kk:Nat} {ps p:Pos} (hg:Gl X "enumerate") (hm:X.mg "enumerate" = none) (ha:PE X a (LE X.K ta)) (hs:starEach [a] X.env=[(false,eval a X.env)]):PI X (.Tuple es kk ps) (.Call (.Name "enumerate" p) [a] [] pos) (LI X.K (jg ta)) :=
 (Ge (p:=p) (pos:=pos) X.K hg hm (sZ ha pa_nil hs) rfl hs).weak fun σ H R ⟨f,O,ss,S,q⟩=>⟨f,O,ss,S,ta.mono (fun d q v H1 e r=>by
  have S1:=S.ex e;cases d <;> first | exact False.elim q | skip
  ·rename_i l;obtain ⟨p,xs,rfl,h1,h2⟩:=r;refine ⟨p,rfl,.inr ⟨⟨xs,h1⟩,q _ H1 e ⟨fun H' i k hi=>?_,fun O' H' i x H'' hO hf al k F hi y=>?_,fun H' k=>?_⟩⟩⟩
   ·rw [tj] at hi;obtain ⟨v,hv,_⟩:=h2.get (show l[i]? = some l[i] by simp [hi]);exact ⟨xs,v,h1.kp k S1.al,hv⟩
   ·rw [tj] at hi;obtain ⟨p',w,rfl,hp,rfl,y⟩:=y;obtain ⟨v,hv,r⟩:=h2.get (show l[i]? = some l[i] by simp [hi]);have:=y xs (h1.kp k S1.al);rw [hv] at this;cases this;refine ⟨_,wx hi,Ex.new F hp _,p',_,rfl,SqT.of s9,.int i,_,rfl,rfl,_,[],rfl,?_,rfl⟩;rw [ac,aq hi];exact (r.moved hO k S1.al).kp ((Ex.new F hp _).kp hf) al
   ·rw [tj];exact ⟨xs,h1.kp k S1.al,by rw [h2.len];exact am _⟩
  ·rename_i l;obtain ⟨p,xs,rfl,n,h1,h2⟩:=r;refine ⟨p,rfl,.inl ⟨⟨xs,SqL.of h1⟩,q _ H1 e ⟨fun H' i k hi=>?_,fun O' H' i x H'' hO hf al k F hi y=>?_,fun H' k=>?_⟩⟩⟩
   ·rw [tj] at hi;obtain ⟨v,hv,_⟩:=h2.get (show l[i]? = some l[i] by simp [hi]);exact ⟨xs,v,SqL.of (k p _ n h1),hv⟩
   ·rw [tj] at hi;obtain ⟨p',w,rfl,hp,rfl,y⟩:=y;obtain ⟨v,hv,r⟩:=h2.get (show l[i]? = some l[i] by simp [hi]);have:=y xs (SqL.of (k p _ n h1));rw [hv] at this;cases this;refine ⟨_,wx hi,Ex.new F hp _,p',_,rfl,SqT.of s9,.int i,_,rfl,rfl,_,[],rfl,?_,rfl⟩;rw [ac,aq hi];exact (r.moved hO k S1.al).kp ((Ex.new F hp _).kp hf) al
   ·rw [tj];exact ⟨xs,SqL.of (k p _ n h1),by rw [h2.len];exact am _⟩) q⟩
def K3 (K:Frag)(ta:TA):TI:=fun σ H R=>ta σ H fun vs H1=>∃ a xs,vs=[.ref a] /\
 ((SqT K H1 a xs/\R ⟨fun i H=>i<xs.length/\∃ ys x,SqT K H a ys/\ys.length=xs.length/\ys.reverse[i]? = some x,fun i H x H'=>H'=H/\∀ xs,SqT K H a xs->xs.reverse[i]? = some x,fun i H=>i=xs.length⟩ H1) \/
   (SqL K H1 a xs/\R ⟨fun i H=>i<xs.length/\∃ ys x,SqL K H a ys/\ys.length=xs.length/\ys.reverse[i]? = some x,fun i H x H'=>H'=H/\∀ xs,SqL K H a xs->xs.reverse[i]? = some x,fun i H=>i=xs.length⟩ H1))
theorem Gd {tg:Expr} {a:Expr} {ta:TA} {p pos:Pos} (hg:Gl X "reversed") (hm:X.mg "reversed" = none) (ha:PA X [a] ta) (hs:starEach [a] X.env=[(false,eval a X.env)]):PI X tg (.Call (.Name "reversed" p) [a] [] pos) (K3 X.K ta):=by
 intro pins s σ H R I h;refine PyProof.Rows.Call_ (wo I hg hm PyProof.Rows.boot_reversed (PyProof.Rows.callWith_type1 (tv (ha pos pins s σ H _ I h) fun us s1 ⟨vs,H1,I1,r1,q1⟩=>?_) hs rfl));obtain ⟨l,xs,e,q1⟩:=q1;subst e;obtain ⟨u,rfl,ru⟩:=Vals.one r1;cases ru;rcases q1 with ⟨hq,q1⟩ | ⟨hq,q1⟩
 ·obtain ⟨its,rv,pl,hz⟩:=I1.tuple hq;have hlen:=rv.length;have hn63:=uo;refine RV.Fu (show s1.heap.IsTuple l its.toArray from pl) (by rw [ai];omega) fun tk=>?_;have st:RV.Is (s1.heap.push { cls:=.type "reversed",data:=.fields #[.ref l,rawInt ((its.toArray.size:Int)-1)] }) s1.heap.objs.size l ((xs.length:Int)-1-((0:Nat):Int)):=⟨_,Heap.get?_push_size _ rfl,rfl,by
   rw [ai,← hlen,show (xs.length:Int)-1-((0:Nat):Int)=(xs.length:Int)-1 by omega]⟩
  refine RV.yq st ?_;refine ⟨_,[s1.heap.objs.size],_,_,H1,rfl,I1.kept (t':=tk) fun b o e=>Heap.get?_push_of_some _ e,DP xs.length l _,st,fun b hb=>?_,q1⟩;rw [av.mp hb];exact I1.fpOk (am _) (I1.hok.fresh (am _))
 ·obtain ⟨its,rv,pl,hz⟩:=I1.list hq;have hlen:=rv.length;refine call_reversed_list pl.isList ?_;have st:(s1.heap.push (revObj l ((its.toArray.size:Int)-1))).IsRevIter s1.heap.objs.size l ((xs.length:Int)-1-((0:Nat):Int)):=⟨_,Heap.get?_push_size _ rfl,rfl,by
   show Data.fields #[.ref l,rawInt ((its.toArray.size:Int)-1)]=_;rw [ai,← hlen,show (xs.length:Int)-1-((0:Nat):Int)=(xs.length:Int)-1 by omega]⟩
  refine wpAny_pyIter_revIter st ?_;refine ⟨_,[s1.heap.objs.size],_,_,H1,rfl,I1.kept (t':=s1.toks) fun b o e=>Heap.get?_push_of_some _ e,CW xs.length l _,st,fun b hb=>?_,q1⟩;rw [av.mp hb];exact I1.fpOk (am _) (I1.hok.fresh (am _))
theorem m5.ok {tg:Expr} {p:Pos} (hg:Gl X "reversed") (hm:X.mg "reversed" = none) (ha:PE X a (LE X.K ta)) (hs:starEach [a] X.env=[(false,eval a X.env)]):PI X tg (.Call (.Name "reversed" p) [a] [] pos) (LI X.K (m5 ta)) :=
 (Gd (p:=p) (pos:=pos) hg hm (sZ ha pa_nil hs) hs).weak fun σ H R ⟨f,O,ss,S,q⟩=>⟨f,O,ss,S,ta.mono (fun d q v H1 e r=>by
  have S1:=S.ex e;cases d <;> first | exact False.elim q | skip
  ·rename_i l;obtain ⟨p,xs,rfl,h1,h2⟩:=r;refine ⟨p,xs,rfl,.inl ⟨h1,q _ H1 e ⟨fun H' i k hi=>?_,fun O' H' i x H'' hO hf al k F hi y=>?_,fun H' k=>?_⟩⟩⟩
   ·obtain ⟨v,hv,_⟩:=h2.reverse.get (show l.reverse[i]? = some l.reverse[i] from aq hi);rw [bO] at hi;exact ⟨by rw [h2.len];exact hi,xs,v,h1.kp k S1.al,rfl,hv⟩
   ·obtain ⟨rfl,y⟩:=y;obtain ⟨v,hv,r⟩:=h2.reverse.get (show l.reverse[i]? = some l.reverse[i] from aq hi);have:=y xs (h1.kp k S1.al);rw [hv] at this;cases this;exact ⟨l.reverse[i],aq hi,Ex.refl F,r.moved hO k S1.al⟩
   ·rw [bO,h2.len]
  ·rename_i l;obtain ⟨p,xs,rfl,n,h1,h2⟩:=r;refine ⟨p,xs,rfl,.inr ⟨SqL.of h1,q _ H1 e ⟨fun H' i k hi=>?_,fun O' H' i x H'' hO hf al k F hi y=>?_,fun H' k=>?_⟩⟩⟩
   ·obtain ⟨v,hv,_⟩:=h2.reverse.get (show l.reverse[i]? = some l.reverse[i] from aq hi);rw [bO] at hi;exact ⟨by rw [h2.len];exact hi,xs,v,SqL.of (k p _ n h1),rfl,hv⟩
   ·obtain ⟨rfl,y⟩:=y;obtain ⟨v,hv,r⟩:=h2.reverse.get (show l.reverse[i]? = some l.reverse[i] from aq hi);have:=y xs (SqL.of (k p _ n h1));rw [hv] at this;cases this;exact ⟨l.reverse[i],aq hi,Ex.refl F,r.moved hO k S1.al⟩
   ·rw [bO,h2.len]) q⟩
structure Cs where
 f:Addr
 O:List Addr
 H:Hp
 S:List Addr
structure Kpc (c:Cs)(H:Hp):Prop where
 kp:∀ b o,c.H b=some o->b≠c.f->(b∈c.O\/b ∉ c.S)->H b=some o
 key:∀ l r,c.H c.f=some (.lst (.ref l::r))->∃ r',H c.f=some (.lst (.ref l::r'))
structure StR (K:Frag)(c:Cs)(O:List Addr)(σ:St)(H:Hp)(ss:SS):Prop where
 sl:SlD K c.f O σ H ss
 sub:∀ a∈c.O,a∈O
 kp:Kpc c H
 new:∀ a∈O,a∈c.S\/c.H a=none
 own:∀ (i:Nat) (l:List D) (a:Addr),ss[i]? = some (SD.own l)->σ[i]? = some (some (V.ref a))->(c.H a=none\/a∈c.S)/\a ∉ c.O/\∀ (j:Nat) (l':List D),ss[j]? = some (SD.own l')->σ[j]? = some (some (V.ref a))->j=i
variable {c:Cs}
theorem Kpc.ex (k:Kpc c H)(e:Ex c.f H H'):Kpc c H':=⟨fun b o h n z=>e.sm.app b o n (k.kp b o h n z),fun l r h=>by
 obtain ⟨r',h1⟩:=k.key l r h;exact e.sm.key l r' h1⟩
theorem StR.ex (R:StR K c O σ H ss)(e:Ex c.f H H'):StR K c O σ H' ss:=⟨R.sl.ex e,R.sub,R.kp.ex e,R.new,R.own⟩
theorem StR.to {σ':St}{ss':SS}(R:StR K c O σ H ss)(S:SlD K c.f O σ' H ss')(h:Sub σ ss σ' ss'):StR K c O σ' H ss':=⟨S,R.sub,R.kp,R.new,fun i l a q e=>by
 obtain ⟨q1,e1⟩:=h i l q;obtain ⟨w1,w2,w3⟩:=R.own i l a q1 (e1.symm.trans e);refine ⟨w1,w2,fun j l' q' e'=>?_⟩;obtain ⟨q2,e2⟩:=h j l' q';exact w3 j l' q2 (e2.symm.trans e')⟩
def frz1 (i:Nat)(ss:SS):SS:=match ss[i]? with | some (.own l)=>ss.set i (.val (.lst l)) | _=>ss
def frz (fz:List Nat)(ss:SS):SS:=fz.foldl (fun s i=>frz1 i s) ss
theorem StR.frz1 (R:StR K c O σ H ss){i:Nat}:∃ O',StR K c O' σ H (frz1 i ss):=by
 unfold Dp.frz1;split
 ·rename_i l e;obtain ⟨a,xs,h1,h2,h3,h4,h5⟩:=R.sl.own i l e;obtain ⟨w1,w2,w3⟩:=R.own i l a e h1;have hs:∀ b∈O.filter (fun b=>decide (b≠a)),b∈O:=fun b hb=>(cr.mp hb).1;have hl:i<ss.length:=(aj.mp e).1;have hlv:(σ.set i (some (V.ref a)))=σ:=by
   apply List.ext_getElem?;intro j;by_cases z:i=j
   ·subst z;rw [aN,if_pos rfl,if_pos (by rw [← R.sl.len];exact hl),h1]
   ·rw [aK z]
  refine ⟨O.filter (fun b=>decide (b≠a)),⟨R.sl.fl,?_,fun b hb=>R.sl.al b (hs b hb),fun l r q z=>R.sl.lO l r q (hs _ z),by rw [bu];exact R.sl.len,fun j d q=>?_,fun j l' q=>?_⟩,fun b hb=>?_,R.kp,fun b hb=>R.new b (hs b hb),fun j l' b q e'=>?_⟩
  ·exact cr.mpr ⟨R.sl.fO,by simpa using Ne.symm h3⟩
  ·by_cases z:i=j
   ·subst z;rw [aN,if_pos rfl,if_pos hl] at q;cases q;exact ⟨_,h1,a,xs,rfl,fun z=>by simpa using (cr.mp z).2,h4,h5.less hs⟩
   ·rw [aK z] at q;obtain ⟨v,q1,q2⟩:=R.sl.val j d q;exact ⟨v,q1,q2.less hs⟩
  ·by_cases z:i=j
   ·subst z;rw [aN,if_pos rfl,if_pos hl] at q;cases q
   ·rw [aK z] at q;obtain ⟨b,ys,q1,q2,q3,q4,q5⟩:=R.sl.own j l' q;refine ⟨b,ys,q1,cr.mpr ⟨q2,?_⟩,q3,q4,q5.less hs⟩;have:b≠a:=by
     rintro rfl;exact z (w3 j l' q q1).symm
    simpa using this
  ·have:b≠a:=by
    rintro rfl;exact w2 hb
   exact cr.mpr ⟨R.sub b hb,by simpa using this⟩
  ·by_cases z:i=j
   ·subst z;rw [aN,if_pos rfl,if_pos hl] at q;cases q
   ·rw [aK z] at q;obtain ⟨p1,p2,p3⟩:=R.own j l' b q e';refine ⟨p1,p2,fun k l2 q2 e2=>?_⟩;by_cases z2:i=k
    ·subst z2;rw [aN,if_pos rfl,if_pos hl] at q2;cases q2
    ·rw [aK z2] at q2;exact p3 k l2 q2 e2
 ·exact ⟨O,R⟩
theorem StR.frz:∀ {fz:List Nat} {ss:SS} {O:List Addr},StR K c O σ H ss->∃ O',StR K c O' σ H (Dp.frz fz ss)
 | [],_,O,R=>⟨O,R⟩
 | i::fz,ss,O,R=>by
  obtain ⟨O1,R1⟩:=R.frz1 (i:=i);exact StR.frz (fz:=fz) R1
structure Rt (K:Frag)(c:Cs)(H:Hp)(d:D)(v:V):Prop where
 fl:Fl H c.f
 kp:Kpc c H
 rp:Rp K c.f c.O H d v
theorem StR.rt (R:StR K c O σ H ss){d:D}{v:V}(r:Rp K c.f O H d v):Rt K c H d v:=⟨R.sl.fl,R.kp,r.less R.sub⟩
def Cs.here (c:Cs)(H:Hp)(O:List Addr):Cs:=⟨c.f,c.O,H,O⟩
theorem StR.here (R:StR K c O σ H ss):StR K (c.here H O) O σ H ss:=⟨R.sl,R.sub,⟨fun b o h _ _=>h,fun l r h=>⟨r,h⟩⟩,fun a h=>.inl h,fun i l a q e=>by
 obtain ⟨a',xs,h1,h2,_⟩:=R.sl.own i l q;rw [h1] at e;cases e;exact ⟨.inr h2,(R.own i l a q h1).2⟩⟩
theorem Kpc.back {O1:List Addr}{H1:Hp}(R:StR K c O1 σ H1 ss)(k:Kpc (c.here H1 O1) H):Kpc c H where
 kp:=fun b o h n z=>by
  refine k.kp b o (R.kp.kp b o h n z) n ?_;rcases z with z | z
  ·exact .inl z
  ·refine .inr fun y=>?_;rcases R.new b y with w | w
   ·exact z w
   ·rw [w] at h;cases h
 key:=fun l r h=>by
  obtain ⟨r',h1⟩:=R.kp.key l r h;exact k.key l r' h1
theorem StR.back {O1:List Addr}{H1:Hp}{σ1:St}{s1:SS}(R:StR K c O1 σ1 H1 s1)(k:StR K (c.here H1 O1) O σ H ss):StR K c O σ H ss:=by
 have low:∀ a,a ∉ c.O->(a∈O1\/H1 a=none)->a∈c.S\/c.H a=none:=fun a n z=>by
  rcases z with z | z
  ·exact R.new a z
  ·cases h:c.H a with
   | none=>exact .inr rfl
   | some o =>
    left;by_cases y:a∈c.S
    ·exact y
    ·exfalso;by_cases w:a=c.f
     ·subst w;obtain ⟨xs,q⟩:=R.sl.fl.lst;rw [q] at z;cases z
     ·rw [R.kp.kp a o h w (.inr y)] at z;cases z
 refine ⟨k.sl,k.sub,Kpc.back R k.kp,fun a h=>?_,fun i l a q e=>?_⟩
 ·by_cases z:a∈c.O
  ·rcases R.new a (R.sub a z) with w | w
   ·exact .inl w
   ·exact .inr w
  ·exact low a z (k.new a h)
 ·obtain ⟨w1,w2,w3⟩:=k.own i l a q e;exact ⟨(low a w2 w1.symm).symm,w2,w3⟩
theorem Rt.back {O1:List Addr}{H1:Hp}{σ1:St}{s1:SS}(R:StR K c O1 σ1 H1 s1){d:D}{v:V}(k:Rt K (c.here H1 O1) H d v):Rt K c H d v:=⟨k.fl,Kpc.back R k.kp,k.rp⟩
structure EndsD where
 nx:SS->Prop
 rt:D->Prop
 bk:SS->Prop
 ct:SS->Prop
structure EndsD.Le (E E':EndsD):Prop where
 nx:∀ s,E.nx s->E'.nx s
 rt:∀ d,E.rt d->E'.rt d
 bk:∀ s,E.bk s->E'.bk s
 ct:∀ s,E.ct s->E'.ct s
structure TSd where
 run:EndsD->SS->Prop
 mono:∀ {E E' ss},E.Le E'->run E ss->run E' ss
def vx (K:Frag)(c:Cs)(D:Ends):EndsD:=⟨fun ss=>∀ O σ H,StR K c O σ H ss->D.nx σ H,fun d=>∀ v H,Rt K c H d v->D.rt v H,fun ss=>∀ O σ H,StR K c O σ H ss->D.bk σ H,fun ss=>∀ O σ H,StR K c O σ H ss->D.ct σ H⟩
def LS (K:Frag)(t:TSd):TS:=fun D σ H=>∃ c O ss,StR K c O σ H ss/\t.run (vx K c D) ss
theorem _root_.L2.PS.weak {st:Stmt}{t t':TS}(h:PS X st t)(w:∀ D σ H,t' D σ H->t D σ H):PS X st t':=fun pins s σ H D I q=>h pins s σ H D I (w D σ H q)
theorem _root_.L2.PSs.weak {st:List Stmt}{t t':TS}(h:PSs X st t)(w:∀ D σ H,t' D σ H->t D σ H):PSs X st t':=fun pins s σ H D I q=>h pins s σ H D I (w D σ H q)
theorem StR.le {t:TEd}{Q:VK}(R:StR K c O σ H ss){W:D->Prop}(h:t.run ss W)(hw:∀ d v H1,StR K c O σ H1 ss->Ex c.f H H1->Rp K c.f O H1 d v->W d->Q v H1):LE K t σ H Q :=
 ⟨c.f,O,ss,R.sl,t.mono (fun d q v H1 e r=>hw d v H1 (R.ex e) e r q) h⟩
theorem StR.lt {t:TTd}{Q:Bool->Hp->Prop}(R:StR K c O σ H ss){W:Bool->Prop}(h:t.run ss W)(hw:∀ d H1,StR K c O σ H1 ss->W d->Q d H1):LT K t σ H Q :=
 ⟨c.f,O,ss,R.sl,t.mono (fun d q H1 e=>hw d H1 (R.ex e) q) h⟩
def iW:TSd:=⟨fun E ss=>E.nx ss,fun h q=>h.nx _ q⟩
theorem iW.nil:PSs X [] (LS X.K iW):=pss_nil.weak fun D σ H ⟨c,O,ss,R,q⟩=>q O σ H R
theorem iW.pass:PS X (.Pass pos) (LS X.K iW):=ps_pass.weak fun D σ H ⟨c,O,ss,R,q⟩=>q O σ H R
def rR:TSd:=⟨fun E ss=>E.bk ss,fun h q=>h.bk _ q⟩
theorem rR.ok:PS X (.Break pos) (LS X.K rR):=ps_break.weak fun D σ H ⟨c,O,ss,R,q⟩=>q O σ H R
@[reducible] def EndsD.to (E:EndsD) (P:SS->Prop):EndsD:=⟨P,E.rt,E.bk,E.ct⟩
def dSq (t u:TSd):TSd:=⟨fun E ss=>t.run (E.to (u.run E)) ss,fun {E E' ss} h q=>t.mono (E:=E.to (u.run E)) (E':=E'.to (u.run E')) ⟨fun s q=>u.mono h q,h.rt,h.bk,h.ct⟩ q⟩
theorem dSq.ok {st:Stmt}{sts:List Stmt}{t u:TSd}(h:PS X st (LS X.K t))(g:PSs X sts (LS X.K u)):PSs X (st::sts) (LS X.K (dSq t u)):=(t5 h g).weak fun D σ H ⟨c,O,ss,R,q⟩ =>
 ⟨c,O,ss,R,t.mono (E:=(vx X.K c D).to (u.run (vx X.K c D))) ⟨fun s q O' σ' H' R'=>⟨c,O',s,R',q⟩,fun _ q=>q,fun _ q=>q,fun _ q=>q⟩ q⟩
theorem dSq.one {st:Stmt}{t:TSd}(h:PS X st (LS X.K t)):PSs X [st] (LS X.K t):=uz h
def iP (fz:List Nat)(e:TEd):TSd:=⟨fun E ss=>e.run (frz fz ss) E.rt,fun h q=>e.mono h.rt q⟩
theorem iP.ok {fz:List Nat}(h:PE X a (LE X.K ta)):PS X (.Return (some a) pos) (LS X.K (iP fz ta)):=(yT h).weak fun D σ H ⟨c,O,ss,R,q⟩=>by
 obtain ⟨O',R⟩:=R.frz (fz:=fz);exact R.le q fun d v H1 R1 _ r w=>w v H1 (R1.rt r)
def rf:TSd:=⟨fun E ss=>E.rt .non,fun h q=>h.rt _ q⟩
theorem rf.ok:PS X (.Return none pos) (LS X.K rf):=ps_retN.weak fun D σ H ⟨c,O,ss,R,q⟩=>q .non H (R.rt rfl)
def dIf (fz:List Nat)(k:TTd)(t u:TSd):TSd:=⟨fun E ss=>k.run (frz fz ss) fun b=>if b=true then t.run E (frz fz ss) else u.run E (frz fz ss),fun {E E' ss} h q=>k.mono (fun b q=>by
 revert q;cases b
 ·exact u.mono h
 ·exact t.mono h) q⟩
theorem dIf.ok {fz:List Nat}{st su:List Stmt}{t u:TSd}(hk:PT X a (LT X.K tA))(ht:PSs X st (LS X.K t))(hu:PSs X su (LS X.K u)):PS X (.If a st su pos) (LS X.K (dIf fz tA t u)):=(Cf hk ht hu).weak fun D σ H ⟨c,O,ss,R,q⟩=>by
 obtain ⟨O',R⟩:=R.frz (fz:=fz);refine R.lt q fun b H1 R1 w=>?_;cases b
 ·exact ⟨c,O',_,R1,w⟩
 ·exact ⟨c,O',_,R1,w⟩
def iO (fz:List Nat)(g:TGd)(e:TEd):TSd:=⟨fun E ss=>e.run (frz fz ss) fun d=>g.run d (frz fz ss) E.nx,fun h q=>e.mono (fun d q=>g.mono h.nx q) q⟩
theorem StR.lg {g:TGd}{d:D}{v:V}{Q:St->Hp->Prop}{W:SS->Prop}(R:StR K c O σ H ss)(r:Rp K c.f O H d v)(h:g.run d ss W)(hw:∀ ss' σ' H1,StR K c O σ' H1 ss'->W ss'->Q σ' H1):LG K g v σ H Q :=
 ⟨c.f,O,ss,d,R.sl,r,g.mono (fun s q σ' H1 e S sb ag=>hw s σ' H1 ((R.ex e).to S sb) q) h⟩
theorem iO.ok {fz:List Nat}{tg:Expr}{g:TGd}(h:PE X a (LE X.K ta))(hg:PG X tg (LG X.K g))(hs:swapsWithSole [tg] a pos.line X.env=pure false)(hw:swappedStores [tg] a X.env=pure none)(h1:(assignEach [tg] X.env).map (·.2)=[assign tg X.env]):PS X (.Assign [tg] a pos) (LS X.K (iO fz g ta)):=(uO h hg hs hw h1).weak fun D σ H ⟨c,O,ss,R,q⟩=>by
 obtain ⟨O',R⟩:=R.frz (fz:=fz);exact R.le q fun d v H1 R1 _ r w=>R1.lg r w fun s' σ' H2 R2 w=>w O' σ' H2 R2
end Dp
namespace Dp
open PySem L2
variable {K:Frag}{f:Addr}{O O':List Addr}{H H':Hp}{X:Cx}{σ:St}{ss:SS}{a b:Expr}{ta tb tc:TEd}{tA tB:TTd}{pos:Pos}{c:Cs}
theorem sI.ok {fz:List Nat}{i:Nat}{x:Str}{p':Pos}(hN:X.N.Nodup)(hi:X.N[i]? = some x)(hx:DH X.env.scope x)(h:PE X a (LE X.K ta))(hs:swapsWith a (some (.Name x p')) pos.line X.env=pure false)(hf:X.fn x=true\/X.env.scope.names.lookup x=some .local) :
  PS X (.Assign [.Name x p'] a pos) (LS X.K (iO fz (gNm i) ta)):=(we hN hi hx h hs hf).weak fun D σ H ⟨c,O,ss,R,q⟩=>by
 obtain ⟨O',R⟩:=R.frz (fz:=fz);exact R.le q fun d v H1 R1 _ r w=>w O' _ H1 (R1.to (R1.sl.set r) Sub.set)
def mt (fz:List Nat)(i j:Nat)(a b:TEd):TSd:=⟨fun E ss=>a.run (frz fz ss) fun d=>b.run (frz fz ss) fun d'=>E.nx (((frz fz ss).set i (.val d)).set j (.val d')),fun h q=>a.mono (fun d q=>b.mono (fun d' q=>h.nx _ q) q) q⟩
theorem mt.weak {fz:List Nat}{i j:Nat}{D:Ends}{ta tb:TEd}(h:LS X.K (mt fz i j ta tb) D σ H):Iz i j (yf (LE X.K ta) (yf (LE X.K tb) FZ)) D σ H:=by
 obtain ⟨c,O,ss,R,q⟩:=h;obtain ⟨O',R⟩:=R.frz (fz:=fz);refine R.le q fun d v H1 R1 e1 r w=>R1.le w fun d' v' H2 R2 e2 r' w=>?_;have S:=(R2.sl.set (i:=i) (R1.sl.up e2 r)).set (i:=j) r';exact ⟨v,v',rfl,w O' _ H2 (R2.to S (Sub.trans Sub.set Sub.set))⟩
def jq (k:TTd)(t:TSd):TSd:=⟨fun E ss=>∃ (I:SS->Prop) (μ:SS->Nat),I ss/\∀ s,I s->k.run s fun b=>if b=true then t.run ⟨fun s'=>I s'/\μ s'<μ s,E.rt,E.nx,fun s'=>I s'/\μ s'<μ s⟩ s else E.nx s,fun {E E' ss} h ⟨I,μ,q0,q⟩=>⟨I,μ,q0,fun s i=>k.mono (fun b q=>by
 revert q;cases b
 ·exact h.nx _
 ·exact t.mono ⟨fun _ q=>q,h.rt,h.nx,fun _ q=>q⟩) (q s i)⟩⟩
theorem jq.ok {st:List Stmt}{t:TSd}(hp:PassesOwn (model X.prog X.w) X.A X.env X.xe)(hk:PT X a (LT X.K tA))(ht:PSs X st (LS X.K t)):PS X (.While a st [] pos) (LS X.K (jq tA t)):=(Eo hp hk ht).weak fun D σ H ⟨c,O,ss,R,I,μ,q0,q⟩=>by
 refine ⟨fun m σ H=>∃ O s,StR X.K c O σ H s/\I s/\μ s=m,⟨_,O,ss,R,q0,rfl⟩,?_⟩;rintro m σ H ⟨O,s,R,i0,rfl⟩;refine R.lt (q s i0) fun b H1 R1 w=>?_;cases b with
 | false=>exact w O σ H1 R1
 | true =>
  refine ⟨fun σ' H'=>∃ O' s',StR X.K c O' σ' H' s'/\I s'/\μ s'<μ s,fun σ' H' ⟨O',s',R',i',l⟩=>⟨_,l,O',s',R',i',rfl⟩,c,O,s,R1,?_⟩;refine t.mono ?_ w;exact ⟨fun s' q O' σ' H' R'=>⟨O',s',R',q⟩,fun _ q=>q,fun _ q=>q,fun s' q O' σ' H' R'=>⟨O',s',R',q⟩⟩
def jl (fz:List Nat)(it:TAd)(g:TGd)(t:TSd):TSd:=⟨fun E ss=>it.run (frz fz ss) fun ds=>∃ I:Nat->SS->Prop,I 0 (frz fz ss)/\(∀ i d s,ds[i]? = some d->I i s->g.run d s fun s1=>t.run ⟨I (i+1),E.rt,E.nx,I (i+1)⟩ s1)/\∀ s,I ds.length s->E.nx s,fun {E E' ss} h q=>it.mono (fun ds ⟨I,q0,q1,q2⟩=>⟨I,q0,fun i d s e i0=>g.mono (fun s1 q=>t.mono (E:=⟨I (i+1),E.rt,E.nx,I (i+1)⟩) (E':=⟨I (i+1),E'.rt,E'.nx,I (i+1)⟩) ⟨fun _ q=>q,h.rt,h.nx,fun _ q=>q⟩ q) (q1 i d s e i0),fun s i0=>h.nx _ (q2 s i0)⟩) q⟩
theorem jl.ok {fz:List Nat}{tg iter:Expr}{st:List Stmt}{it:TAd}{g:TGd}{t:TSd}(hp:PassesOwn (model X.prog X.w) X.A X.env X.xe)(hc:X.calm=true)(hi:PI X tg iter (LI X.K it))(hg:PG X tg (LG X.K g))(ht:PSs X st (LS X.K t))(hs:∀ x,foldedSetIterable iter X.env x=pure x) :
  PS X (.For tg iter st [] pos) (LS X.K (jl fz it g t)):=(Jb hp hc hi hg ht hs).weak fun D σ H ⟨c,O,ss,R,q⟩=>by
 obtain ⟨O,R⟩:=R.frz (fz:=fz);refine ⟨c.f,O,_,R.sl,it.mono (fun ds q J H1 e1 D0=>?_) q⟩;obtain ⟨I,q0,q1,q2⟩:=q;have R1:=R.ex e1;refine ⟨fun i m σ H=>∃ O2 s,StR X.K (c.here H1 O) O2 σ H s/\I i s/\m=ds.length-i/\i<=ds.length,⟨_,O,_,R1.here,q0,rfl,aC _⟩,?_⟩;rintro i m σ H ⟨O2,s,R2,i0,rfl,hi⟩;have kp:Kp O H1 H:=fun b o n h=>R2.kp.kp b o h (fun z=>n (by rw [z];exact R.sl.fO)) (.inr n);rcases ao i ds.length with hk | hk
 ·refine .inr ⟨D0.go H i kp hk,fun σ' H'=>∃ O3 s',StR X.K (c.here H1 O) O3 σ' H' s'/\I (i+1) s',fun σ' H' ⟨O3,s',R3,i3⟩=>⟨ds.length-(i+1),by omega,O3,s',R3,i3,rfl,hk⟩,fun x H' y=>?_⟩;obtain ⟨d,ed,e2,rd⟩:=D0.yld O2 H i x H' R2.new R2.sl.fO R2.sl.al kp R2.sl.fl hk y;refine (R2.ex e2).lg rd (q1 i d s ed i0) fun s1 σ' H3 R3 w=>?_;refine ⟨c.here H1 O,O2,s1,R3,?_⟩;refine t.mono ?_ w;exact ⟨fun s' q O' σ' H' R'=>⟨O',s',R',q⟩,fun d q v H r=>q v H (Rt.back R1 r),fun s' q O' σ' H' R'=>q O' σ' H' (StR.back R1 R'),fun s' q O' σ' H' R'=>⟨O',s',R',q⟩⟩
 ·have ek:i=ds.length:=by omega
  subst ek;exact .inl ⟨D0.stop H kp,q2 s i0 O2 σ H (StR.back R1 R2)⟩
def LF (K:Frag)(t:TEd):TE:=fun σ H Q=>∃ f O ss,SlD K f O σ H ss/\t.run ss fun d=>∃ l,d = .lst l/\∀ p xs H',Ex f H H'->H p=none->H' p=some (.lst xs)->Rps K f (p::O) H' l xs->Q (.ref p) H'
theorem StR.mkOwn {l:List D}{p:Addr}{xs:List V}{i:Nat}(R:StR K c O σ H ss)(e:Ex c.f H H')(hp:H p=none)(hx:H' p=some (.lst xs))(r':Rps K c.f (p::O) H' l xs):StR K c (p::O) (σ.set i (some (.ref p))) H' (ss.set i (.own l)):=by
 have mv:∀ b∈p::O,b∈O\/H b=none:=fun b hb=>by
  rcases au.mp hb with z | z
  ·exact .inr (z ▸ hp)
  ·exact .inl z
 have kp:=e.kp R.sl.fO;have np:p ∉ O:=R.sl.nO hp;have npf:p≠c.f:=fun z=>np (z ▸ R.sl.fO);have low:c.H p=none\/p∈c.S:=by
  cases h:c.H p with
  | none=>exact .inl rfl
  | some o =>
   right;by_cases y:p∈c.S
   ·exact y
   ·rw [R.kp.kp p o h npf (.inr y)] at hp;cases hp
 have hne:∀ (j:Nat) (l':List D) (b:Addr),ss[j]? = some (SD.own l')->σ[j]? = some (some (V.ref b))->b≠p:=fun j l' b q1 q2=>by
  obtain ⟨b',ys,w1,w2,_⟩:=R.sl.own j l' q1;rw [w1] at q2;cases q2;rintro rfl;exact np w2
 refine ⟨⟨e.fl,aw _ R.sl.fO,fun b hb=>?_,fun l r q=>?_,by rw [bu,bu];exact R.sl.len,fun j d q=>?_,fun j l' q=>?_⟩,fun b hb=>aw _ (R.sub b hb),R.kp.ex e,fun b hb=>?_,fun j l' b q eb=>?_⟩
 ·rcases au.mp hb with z | z
  ·exact ⟨xs,z ▸ hx⟩
  ·exact (R.sl.ex e).al b z
 ·intro z;rcases au.mp z with w | w
  ·subst w;obtain ⟨l0,ns,i,c',a',b',f1,f2,f3⟩:=R.sl.fl;obtain ⟨r',h2⟩:=e.sm.key _ _ f1;rw [h2] at q;cases q;rw [hp] at f2;cases f2
  ·exact (R.sl.ex e).lO _ _ q w
 ·by_cases z:i=j
  ·subst z;rw [aN,if_pos rfl] at q;split at q <;> cases q
  ·rw [aK z] at q ⊢;obtain ⟨v,w1,w2⟩:=R.sl.val j d q;exact ⟨v,w1,w2.moved mv kp R.sl.al⟩
 ·by_cases z:i=j
  ·subst z;rw [aN,if_pos rfl] at q;split at q
   ·rename_i hl;cases q;exact ⟨p,xs,by rw [aN,if_pos rfl,if_pos (by rw [← R.sl.len];exact hl)],ar,npf,hx,r'⟩
   ·cases q
  ·rw [aK z] at q ⊢;obtain ⟨b,ys,w1,w2,w3,w4,w5⟩:=R.sl.own j l' q;exact ⟨b,ys,w1,aw _ w2,w3,e.sm.app b _ w3 w4,w5.moved mv kp R.sl.al⟩
 ·rcases au.mp hb with z | z
  ·subst z;exact low.symm
  ·exact R.new b z
 ·by_cases z:i=j
  ·subst z;rw [aN,if_pos rfl] at eb;split at eb
   ·cases eb;refine ⟨low,fun w=>np (R.sub _ w),fun j' l2 q2 e2=>?_⟩;by_cases z2:i=j'
    ·exact z2.symm
    ·rw [aK z2] at q2 e2;exact absurd rfl (hne j' l2 _ q2 e2)
   ·cases eb
  ·rw [aK z] at q eb;obtain ⟨w1,w2,w3⟩:=R.own j l' b q eb;refine ⟨w1,w2,fun j' l2 q2 e2=>?_⟩;by_cases z2:i=j'
   ·subst z2;rw [aN,if_pos rfl] at e2;split at e2
    ·cases e2;exact absurd rfl (hne j l' _ q eb)
    ·cases e2
   ·rw [aK z2] at q2 e2;exact w3 j' l2 q2 e2
theorem StR.wr {l l':List D}{i:Nat}{a:Addr}{xs:List V}(R:StR K c O σ H ss)(hs:ss[i]? = some (SD.own l))(ha:σ[i]? = some (some (V.ref a)))(r:Rps K c.f O H l' xs):StR K c O σ (tN H a (.lst xs)) (ss.set i (.own l')):=by
 obtain ⟨a',ys,h1,h2,h3,h4,h5⟩:=R.sl.own i l hs;rw [h1] at ha;cases ha;obtain ⟨w1,w2,w3⟩:=R.own i l a hs h1;have hl:i<ss.length:=(aj.mp hs).1;have kp:Kp O H (tN H a (.lst xs)):=fun b o n q=>by
  rw [sV (by rintro rfl;exact n h2)];exact q
 have fl:Fl (tN H a (.lst xs)) c.f:=by
  obtain ⟨l0,ns,i,c',a',b',f1,f2,f3⟩:=R.sl.fl;refine ⟨l0,ns,i,c',a',b',by rw [sV (Ne.symm h3)];exact f1,?_,f3⟩;rw [sV (by rintro rfl;exact R.sl.lO _ _ f1 h2)];exact f2
 have gt:∀ {j:Nat} {s:SD},(ss.set i (.own l'))[j]? = some s->(j=i/\s = .own l')\/(j≠i/\ss[j]? = some s):=fun {j s} q=>by
  by_cases z:i=j
  ·subst z;rw [aN,if_pos rfl,if_pos hl] at q;exact .inl ⟨rfl,(Option.some.inj q).symm⟩
  ·rw [aK z] at q;exact .inr ⟨Ne.symm z,q⟩
 refine ⟨⟨fl,R.sl.fO,fun b hb=>?_,fun l r q=>by rw [sV (Ne.symm h3)] at q;exact R.sl.lO l r q,by rw [bu];exact R.sl.len,fun j d q=>?_,fun j l2 q=>?_⟩,R.sub,⟨fun b o q n z=>?_,fun l r q=>?_⟩,R.new,fun j l2 b q e=>?_⟩
 ·by_cases z:b=a
  ·subst z;exact ⟨xs,s9⟩
  ·rw [sV z];exact R.sl.al b hb
 ·rcases gt q with ⟨_,z⟩ | ⟨_,q⟩
  ·cases z
  ·obtain ⟨v,q1,q2⟩:=R.sl.val j d q;exact ⟨v,q1,q2.kp kp R.sl.al⟩
 ·rcases gt q with ⟨rfl,z⟩ | ⟨z,q⟩
  ·cases z;exact ⟨a,xs,h1,h2,h3,s9,r.kp kp R.sl.al⟩
  ·obtain ⟨b,zs,q1,q2,q3,q4,q5⟩:=R.sl.own j l2 q;have nb:b≠a:=by
    rintro rfl;exact z (w3 j l2 q q1)
   exact ⟨b,zs,q1,q2,q3,by rw [sV nb];exact q4,q5.kp kp R.sl.al⟩
 ·have nb:b≠a:=by
   rintro rfl;rcases z with z | z
   ·exact w2 z
   ·rcases w1 with w | w
    ·rw [w] at q;cases q
    ·exact z w
  rw [sV nb];exact R.kp.kp b o q n z
 ·obtain ⟨r',q1⟩:=R.kp.key l r q;exact ⟨r',by rw [sV (Ne.symm h3)];exact q1⟩
 ·have q':∃ l3,ss[j]? = some (SD.own l3):=by
   rcases gt q with ⟨rfl,z⟩ | ⟨z,q⟩
   ·exact ⟨l,hs⟩
   ·exact ⟨l2,q⟩
  obtain ⟨l3,q'⟩:=q';obtain ⟨p1,p2,p3⟩:=R.own j l3 b q' e;refine ⟨p1,p2,fun j' l4 q4 e4=>?_⟩;rcases gt q4 with ⟨rfl,z⟩ | ⟨z,q5⟩
  ·exact p3 _ l hs e4
  ·exact p3 j' l4 q5 e4
end Dp
namespace Dp
open PySem L2
variable {K:Frag}{f:Addr}{O O':List Addr}{H H':Hp}{X:Cx}{σ:St}{ss:SS}{a b:Expr}{ta tb tc:TEd}{tA tB:TTd}{pos:Pos}{c:Cs}
theorem Rps.skip {p:Addr}{H1:Hp}(S:SlD K f O σ H1 ss)(hp:H1 p=none){o:HO}{ds:List D}{vs:List V}(r:Rps K f O H1 ds vs):Rps K f (p::O) (tN H1 p o) ds vs :=
 r.moved (fun a z=>by
  rcases au.mp z with w | w
  ·exact .inr (by rw [w];exact hp)
  ·exact .inl w) ((S.new hp o).kp S.fO) S.al
theorem Ex.low {H1:Hp}(e:Ex f H H1){p:Addr}(n:p≠f)(h:H1 p=none):H p=none:=e.sm.free n h
theorem iY.okF {es:List Expr}{t:TAd}(h:PA X es (LA X.K t)):PE X (.List es pos) (LF X.K (iY t)):=(Bi h).weak fun σ H Q ⟨f,O,ss,S,q⟩ =>
 ⟨f,O,ss,S,t.mono (fun ds q vs H1 e r=>by
  obtain ⟨hl,l,el,q⟩:=q;cases el;refine ⟨by rw [r.len];exact hl,fun p hp=>?_⟩;have S1:=S.ex e;exact q p vs _ (e.trans (S1.new hp _)) (e.low (fun z=>S1.nO hp (z ▸ S1.fO)) hp) s9 (Rps.skip S1 hp r)) q⟩
theorem sO.okF (ha:PE X a (LE X.K ta))(hb:PE X b (LE X.K tb)):PE X (.BinOp a .Mult b pos) (LF X.K (iL .Mult ta tb)):=(tJ (pos:=pos) EI ha hb).weak fun σ H Q ⟨f,O,ss,S,q⟩=>by
 refine ⟨f,O,ss,S,ta.mono (fun dx q v1 H1 e1 r1=>?_) q⟩;refine ⟨f,O,ss,S.ex e1,tb.mono (fun dy q v2 H2 e2 r2=>?_) q⟩;have S2:=(S.ex e1).ex e2;have r1:=(S.ex e1).up e2 r1;cases dx <;> cases dy <;> first | (exact False.elim q) | skip
 ·obtain ⟨_,l,el,_⟩:=q;cases el
 ·obtain ⟨_,_,_,l,el,_⟩:=q;cases el
 ·rename_i la k;obtain ⟨q1,q2,q3,l,el,q⟩:=q;cases el;obtain ⟨p0,xs,rfl,n1,h1,h2⟩:=r1;cases (show v2=_ from r2);refine ⟨p0,k,xs,rfl,rfl,h1,q1,q2,by rw [h2.len];exact q3,fun p hp=>?_⟩;have e12:=e1.trans e2;exact q p _ _ (e12.trans (S2.new hp _)) (e12.low (fun z=>S2.nO hp (z ▸ S2.fO)) hp) s9 (Rps.skip S2 hp (h2.flat _))
def jN (t:TEd):TEd:=⟨fun ss Q=>t.run ss fun d=>itemsD d fun l=>Q (.lst l),fun h q=>t.mono (fun d q=>itemsD.mono (fun l q=>h _ q) q) q⟩
theorem jN.okF {p:Pos} (hg:Gl X "list") (hm:X.mg "list" = none) (ha:PE X a (LE X.K ta)) (hs:starEach [a] X.env=[(false,eval a X.env)]):PE X (.Call (.Name "list" p) [a] [] pos) (LF X.K (jN ta)) :=
 (wj (p:=p) (pos:=pos) (EV X.K) hg hm CV (sZ ha pa_nil hs) (by decide) (by decide) hs rfl).weak fun σ H Q ⟨f,O,ss,S,q⟩=>⟨f,O,ss,S,ta.mono (fun d q v H1 e r=>by
  have S1:=S.ex e;cases d <;> first | exact False.elim q | skip
  ·rename_i l0;obtain ⟨l,el,q⟩:=q;cases el;obtain ⟨p0,xs,rfl,h1,h2⟩:=r;exact ⟨p0,xs,rfl,.inr h1,fun p hp=>q p _ _ (e.trans (S1.new hp _)) (e.low (fun z=>S1.nO hp (z ▸ S1.fO)) hp) s9 (Rps.skip S1 hp h2)⟩
  ·rename_i l0;obtain ⟨l,el,q⟩:=q;cases el;obtain ⟨p0,xs,rfl,_,h1,h2⟩:=r;exact ⟨p0,xs,rfl,.inl (SqL.of h1),fun p hp=>q p _ _ (e.trans (S1.new hp _)) (e.low (fun z=>S1.nO hp (z ▸ S1.fO)) hp) s9 (Rps.skip S1 hp h2)⟩) q⟩
def kY (fz:List Nat)(i:Nat)(e:TEd):TSd:=⟨fun E ss=>e.run (frz fz ss) fun d=>match d with | .lst l=>E.nx ((frz fz ss).set i (.own l)) | _=>False,fun {E E' ss} h q=>e.mono (fun d q=>by
 revert q;cases d <;> first | exact h.nx _ | exact id) q⟩
theorem kY.ok {fz:List Nat}{i:Nat}{x:Str}{p':Pos}(hN:X.N.Nodup)(hi:X.N[i]? = some x)(hx:DH X.env.scope x)(h:PE X a (LF X.K ta))(hs:swapsWith a (some (.Name x p')) pos.line X.env=pure false)(hf:X.fn x=true\/X.env.scope.names.lookup x=some .local) :
  PS X (.Assign [.Name x p'] a pos) (LS X.K (kY fz i ta)):=(we hN hi hx h hs hf).weak fun D σ H ⟨c,O,ss,R,q⟩=>by
 obtain ⟨O',R⟩:=R.frz (fz:=fz);refine ⟨c.f,O',_,R.sl,ta.mono (fun d q=>?_) q⟩;cases d <;> first | exact False.elim q | skip
 rename_i l;exact ⟨l,rfl,fun p xs H1 e hp hx r=>q _ _ H1 (R.mkOwn e hp hx r)⟩
def pW (fz:List Nat)(i:Nat)(e:TEd):TSd:=⟨fun E ss=>match (frz fz ss)[i]? with | some (.own l)=>e.run (frz fz ss) fun d=>l.length<sizeLine/\E.nx ((frz fz ss).set i (.own (l++[d]))) | _=>False,fun {E E' ss} h q=>by
 revert q;split
 ·exact e.mono fun d q=>⟨q.1,h.nx _ q.2⟩
 ·exact id⟩
theorem pW.ok {fz:List Nat} {i:Nat} {x:Expr} {ap cp:Pos} (hx:PE X x (vz i)) (hb:attributeBase x "append" X.env (eval x X.env)=eval x X.env) (h:PE X a (LE X.K ta)) (hs:starEach [a] X.env=[(false,eval a X.env)]) (hl:(ap.endLine == cp.line)=true) (hw:swapsWith (.Call (.Attribute x "append" ap) [a] [] cp) none pos.line X.env=pure false) :
  PS X (.Expr (.Call (.Attribute x "append" ap) [a] [] cp) pos) (LS X.K (pW fz i ta)):=by
 refine (yU (pos:=pos) (HF (apos:=ap) (cpos:=cp) PySem.F.plainAttrs_list PySem.F.slot_list_append PySem.F.type_list_append Do hx (sZ h pa_nil hs) hb (by rw [hs];rfl) hl hs rfl) hw).weak fun D σ H ⟨c,O,ss,R,q⟩=>?_;obtain ⟨O',R⟩:=R.frz (fz:=fz);have q:(match (frz fz ss)[i]? with | some (.own l)=>ta.run (frz fz ss) fun d=>l.length<sizeLine/\(vx X.K c D).nx ((frz fz ss).set i (.own (l++[d]))) | _=>False):=q;split at q
 ·rename_i l el;obtain ⟨p,xs,h1,h2,h3,h4,h5⟩:=R.sl.own i l el;refine ⟨_,h1,.inl ⟨rfl,xs,SqL.of h4⟩,R.le q fun d v H1 R1 e1 r w=>?_⟩;have hp:=e1.sm.app p _ h3 h4;have r5:=R.sl.ups e1 h5;refine ⟨p,xs,v,rfl,rfl,hp,by rw [r5.len];exact w.1,w.2 O' σ _ (R1.wr el h1 (r5.append ⟨v,[],rfl,r,rfl⟩))⟩
 ·exact q.elim
theorem Rps.dropLast:∀ {ds:List D} {vs:List V},Rps K f O H ds vs->Rps K f O H ds.dropLast vs.dropLast:=fun {ds vs} h=>by
 rw [e7,e7,h.len];exact h.take _
def rS (i:Nat):TSd:=⟨fun E ss=>match ss[i]? with | some (.own l)=>l≠[]/\E.nx (ss.set i (.own l.dropLast)) | _=>False,fun {E E' ss} h q=>by
 revert q;split
 ·exact fun q=>⟨q.1,h.nx _ q.2⟩
 ·exact id⟩
theorem rS.ok {i:Nat} {x:Expr} {ap cp:Pos} (hx:PE X x (vz i)) (hb:attributeBase x "pop" X.env (eval x X.env)=eval x X.env) (hl:(ap.endLine == cp.line)=true) (hw:swapsWith (.Call (.Attribute x "pop" ap) [] [] cp) none pos.line X.env=pure false) :
  PS X (.Expr (.Call (.Attribute x "pop" ap) [] [] cp) pos) (LS X.K (rS i)):=by
 refine (yU (pos:=pos) (Bk (apos:=ap) (cpos:=cp) PySem.F.plainAttrs_list PySem.F.slot_list_pop PySem.F.type_list_pop EO hx hb hl) hw).weak fun D σ H ⟨c,O,ss,R,q⟩=>?_;have q:(match ss[i]? with | some (.own l)=>l≠[]/\(vx X.K c D).nx (ss.set i (.own l.dropLast)) | _=>False):=q;split at q
 ·rename_i l el;obtain ⟨p,xs,h1,h2,h3,h4,h5⟩:=R.sl.own i l el;have hne:0<l.length:=du.mpr q.1;obtain ⟨v,hv,_⟩:=h5.get (show l[l.length-1]? = some (l[l.length-1]'(by omega)) by simp);exact ⟨_,h1,.inl ⟨rfl,xs,SqL.of h4⟩,p,xs,v,rfl,rfl,h4,by rw [h5.len];exact hv,q.2 O σ _ (R.wr el h1 h5.dropLast)⟩
 ·exact q.elim
def pX (j i:Nat):TSd:=⟨fun E ss=>match ss[i]? with | some (.own l)=>∃ d,l[l.length-1]? = some d/\E.nx ((ss.set i (.own l.dropLast)).set j (.val d)) | _=>False,fun {E E' ss} h q=>by
 revert q;split
 ·exact fun ⟨d,q1,q2⟩=>⟨d,q1,h.nx _ q2⟩
 ·exact id⟩
theorem pX.ok {i j:Nat} {y:Str} {x:Expr} {ap cp p':Pos} (hN:X.N.Nodup) (hj:X.N[j]? = some y) (hy:DH X.env.scope y) (hf:X.fn y=true\/X.env.scope.names.lookup y=some .local) (hx:PE X x (vz i)) (hb:attributeBase x "pop" X.env (eval x X.env)=eval x X.env) (hl:(ap.endLine == cp.line)=true) (hw:swapsWith (.Call (.Attribute x "pop" ap) [] [] cp) (some (.Name y p')) pos.line X.env=pure false) :
  PS X (.Assign [.Name y p'] (.Call (.Attribute x "pop" ap) [] [] cp) pos) (LS X.K (pX j i)):=by
 refine (we (pos:=pos) hN hj hy (Bk (apos:=ap) (cpos:=cp) PySem.F.plainAttrs_list PySem.F.slot_list_pop PySem.F.type_list_pop EO hx hb hl) hw hf).weak fun D σ H ⟨c,O,ss,R,q⟩=>?_;have q:(match ss[i]? with | some (.own l)=>∃ d,l[l.length-1]? = some d/\(vx X.K c D).nx ((ss.set i (.own l.dropLast)).set j (.val d)) | _=>False):=q;split at q
 ·rename_i l el;obtain ⟨p,xs,h1,h2,h3,h4,h5⟩:=R.sl.own i l el;obtain ⟨d,q1,q2⟩:=q;obtain ⟨v,hv,rv⟩:=h5.get q1;have R2:=R.wr el h1 h5.dropLast;have kp:Kp O H (tN H p (.lst xs.dropLast)):=fun b o n q=>by
   rw [sV (by rintro rfl;exact n h2)];exact q
  refine ⟨_,h1,.inl ⟨rfl,xs,SqL.of h4⟩,p,xs,v,rfl,rfl,h4,by rw [h5.len];exact hv,q2 O _ _ (R2.to (R2.sl.set (rv.kp kp R.sl.al)) Sub.set)⟩
 ·exact q.elim
def atD (l:List D)(dk:D)(Q:Nat->Prop):Prop:=match dk with | .int z=>(match AX l.length z with | some j=>Q j | none=>False) | _=>False
theorem atD.mono {l:List D}{dk:D}{Q Q':Nat->Prop}(h:∀ j,Q j->Q' j):atD l dk Q->atD l dk Q':=by
 cases dk <;> first | exact id | skip
 unfold atD;dsimp only;split
 ·exact h _
 ·exact id
def mf (fz:List Nat)(i:Nat)(k e:TEd):TSd:=⟨fun E ss=>match (frz fz ss)[i]? with | some (.own l)=>e.run (frz fz ss) fun d=>k.run (frz fz ss) fun dk=>atD l dk fun j=>E.nx ((frz fz ss).set i (.own (l.set j d))) | _=>False,fun {E E' ss} h q=>by
 revert q;split
 ·exact e.mono fun d=>k.mono fun dk=>atD.mono fun j=>h.nx _
 ·exact id⟩
theorem mf.ok {fz:List Nat}{i:Nat}{x k:Expr}{tk:TEd}{sp:Pos}(hx:PE X x (vz i))(hk:PE X k (LE X.K tk))(h:PE X a (LE X.K ta))(hs:swapsWithSole [.Subscript x k sp] a pos.line X.env=pure false)(hw:swappedStores [.Subscript x k sp] a X.env=pure none)(h1:(assignEach [.Subscript x k sp] X.env).map (·.2)=[assign (.Subscript x k sp) X.env])
  (hg:PG X (.Subscript x k sp) (K8 (vz i) (LE X.K tk) HB)):PS X (.Assign [.Subscript x k sp] a pos) (LS X.K (mf fz i tk ta)):=by
 refine (uO (pos:=pos) h hg hs hw h1).weak fun D σ H ⟨c,O,ss,R,q⟩=>?_;obtain ⟨O',R⟩:=R.frz (fz:=fz);have q:(match (frz fz ss)[i]? with | some (.own l)=>ta.run (frz fz ss) fun d=>tk.run (frz fz ss) fun dk=>atD l dk fun j=>(vx X.K c D).nx ((frz fz ss).set i (.own (l.set j d))) | _=>False):=q;split at q
 ·rename_i l el;obtain ⟨p,xs,g1,g2,g3,g4,g5⟩:=R.sl.own i l el;refine R.le q fun d v H1 R1 e1 r w=>⟨_,g1,R1.le w fun dk vk H2 R2 e2 rk w=>?_⟩;cases dk <;> first | exact False.elim w | skip
  rename_i z;cases (show vk=_ from rk);unfold atD at w;dsimp only at w;split at w
  ·rename_i j ej;have e12:=e1.trans e2;have r5:=R.sl.ups e12 g5;exact ⟨p,xs,z,j,rfl,rfl,e12.sm.app p _ g3 g4,by rw [r5.len];exact ej,w O' σ _ (R2.wr el g1 (r5.set (R1.sl.up e2 r) j))⟩
  ·exact w.elim
 ·exact q.elim
def oAug:Operator->OD
 | .Add=>fun x y Q=>match x,y with | .int i,.int j=>Q (.int (i+j)) | .str a,.str b=>a.length+b.length<=sizeLine/\Q (.str (a++b)) | _,_=>False
 | .Sub=>oSub
 | .Mult=>fun x y Q=>match x,y with | .int i,.int j=>CMulB i j/\Q (.int (i*j)) | _,_=>False
 | .FloorDiv=>oDiv
 | _=>Bo
theorem oAug.mono {op:Operator}:∀ {x y Q Q'},(∀ d,Q d->Q' d)->oAug op x y Q->oAug op x y Q':=by
 cases op;all_goals first | exact oSub.mono | exact oDiv.mono | exact fun _ q=>q | skip
 all_goals (intro x y Q Q' h;cases x <;> cases y <;> intro q <;> first | exact h _ q | exact q | exact ⟨q.1,h _ q.2⟩)
theorem Eb {k:Nat}(hr:Room k X.A)(op:Operator):Rng X (inplaceOp op) (oAug op):=by
 cases op;case Add =>
  refine ⟨_,OpR.or2 GU Az,fun f O σ ss H dx dy x y Q R rx ry h=>?_⟩;cases dx <;> cases dy <;> first | (exact False.elim h) | skip
  ·cases rx;cases ry;exact .inl ⟨_,_,rfl,rfl,h _ H (Ex.refl R.fl) rfl⟩
  ·cases rx;cases ry;exact .inr ⟨_,_,rfl,rfl,h.1,h.2 _ H (Ex.refl R.fl) rfl⟩
 case Sub =>
  refine ⟨_,GT,fun f O σ ss H dx dy x y Q R rx ry h=>?_⟩;cases dx <;> cases dy <;> first | (exact False.elim h) | skip
  cases rx;cases ry;exact ⟨_,_,rfl,rfl,h _ H (Ex.refl R.fl) rfl⟩
 case Mult=>exact wb E3 fun dx dy Q h=>by cases dx <;> cases dy <;> first | (exact False.elim h) | exact ⟨_,_,rfl,rfl,h.1,h.2⟩
 case FloorDiv=>exact wb (Dr hr) fun dx dy Q h=>by cases dx <;> cases dy <;> first | (exact False.elim h) | exact ⟨_,_,rfl,rfl,h.1,h.2⟩
 all_goals exact Rng.never
def nM (fz:List Nat)(i:Nat)(op:Operator)(e:TEd):TSd:=⟨fun E ss=>match (frz fz ss)[i]? with | some (.val x)=>e.run (frz fz ss) fun y=>oAug op x y fun z=>E.nx ((frz fz ss).set i (.val z)) | _=>False,fun {E E' ss} h q=>by
 revert q;split
 ·exact e.mono fun y=>oAug.mono fun z=>h.nx _
 ·exact id⟩
theorem nM.ok {k0:Nat}{fz:List Nat}{i:Nat}{x:Str}{op:Operator}{p':Pos}(hk0:Room k0 X.A)(hN:X.N.Nodup)(hi:X.N[i]? = some x)(hx:DH X.env.scope x)(h:PE X a (LE X.K ta))(hf:X.fn x=true\/X.env.scope.names.lookup x=some .local) :
  PS X (.AugAssign (.Name x p') op a pos) (LS X.K (nM fz i op ta)):=by
 obtain ⟨r,hr,hd⟩:=Eb (X:=X) hk0 op;refine (Jc (pos:=pos) hN hi hx h (ti:=r) hr hf).weak fun D σ H ⟨c,O,ss,R,q⟩=>?_;obtain ⟨O',R⟩:=R.frz (fz:=fz);have q:(match (frz fz ss)[i]? with | some (.val x)=>ta.run (frz fz ss) fun y=>oAug op x y fun z=>(vx X.K c D).nx ((frz fz ss).set i (.val z)) | _=>False):=q;split at q
 ·rename_i dx ex;obtain ⟨v,g1,g2⟩:=R.sl.val i dx ex;refine ⟨v,g1,R.le q fun dy y H1 R1 e1 ry w=>?_⟩;refine hd c.f O' σ _ H1 dx dy v y _ R1.sl (R.sl.up e1 g2) ry (oAug.mono (fun z w v' H2 e2 rz=>?_) w);have R2:=R1.ex e2;exact w O' _ H2 (R2.to (R2.sl.set rz) Sub.set)
 ·exact q.elim
def augD (l:List D)(dk:D)(Q:Nat->D->Prop):Prop:=match dk with | .int z=>0<=z/\(match l[z.toNat]? with | some x=>Q z.toNat x | none=>False) | _=>False
theorem augD.mono {l:List D}{dk:D}{Q Q':Nat->D->Prop}(h:∀ j x,Q j x->Q' j x):augD l dk Q->augD l dk Q':=by
 cases dk <;> first | exact id | skip
 unfold augD;dsimp only;split
 ·exact fun q=>⟨q.1,h _ _ q.2⟩
 ·exact id
def mh (fz:List Nat)(i:Nat)(k:TEd)(op:Operator)(e:TEd):TSd:=⟨fun E ss=>match (frz fz ss)[i]? with | some (.own l)=>k.run (frz fz ss) fun dk=>augD l dk fun j x=>e.run (frz fz ss) fun y=>oAug op x y fun z=>E.nx ((frz fz ss).set i (.own (l.set j z))) | _=>False,fun {E E' ss} h q=>by
 revert q;split
 ·exact k.mono fun dk=>augD.mono fun j x=>e.mono fun y=>oAug.mono fun z=>h.nx _
 ·exact id⟩
theorem mh.ok {k0:Nat}{fz:List Nat}{i:Nat}{x k:Expr}{tk:TEd}{op:Operator}{sp:Pos}(hk0:Room k0 X.A)(hx:PE X x (vz i))(hk:PE X k (LE X.K tk))(h:PE X a (LE X.K ta))(ha:∀ ov iv new,augStore k ov iv new=(do holding [new,ov,iv] (setItem ov iv new);release [new,ov,iv] [];pure .next)) :
  PS X (.AugAssign (.Subscript x k sp) op a pos) (LS X.K (mh fz i tk op ta)):=by
 obtain ⟨r,hr,hd⟩:=Eb (X:=X) hk0 op;refine (Gc (pos:=pos) (tpos:=sp) hx hk (Mx X.K) h (tip:=r) hr t4 ha).weak fun D σ H ⟨c,O,ss,R,q⟩=>?_;obtain ⟨O',R⟩:=R.frz (fz:=fz);have q:(match (frz fz ss)[i]? with | some (.own l)=>tk.run (frz fz ss) fun dk=>augD l dk fun j x=>ta.run (frz fz ss) fun y=>oAug op x y fun z=>(vx X.K c D).nx ((frz fz ss).set i (.own (l.set j z))) | _=>False):=q;split at q
 ·rename_i l el;obtain ⟨p,xs,g1,g2,g3,g4,g5⟩:=R.sl.own i l el;refine ⟨_,g1,R.le q fun dk vk H1 R1 e1 rk w=>?_⟩;cases dk <;> first | exact False.elim w | skip
  rename_i z;cases (show vk=_ from rk);obtain ⟨z0,w⟩:=w;obtain ⟨j,rfl⟩:=dF z0;rw [aS] at w;split at w
  ·rename_i dx hx;obtain ⟨v,hv,rv⟩:=g5.get hx;refine ⟨p,xs,v,j,rfl,rfl,SqL.of (e1.sm.app p _ g3 g4),hv,R1.le w fun dy y H2 R2 e2 ry w=>?_⟩;refine hd c.f O' σ _ H2 dx dy v y _ R2.sl (R1.sl.up e2 (R.sl.up e1 rv)) ry (oAug.mono (fun z w v' H3 e3 rz=>?_) w);have R3:=R2.ex e3;have e13:=e1.trans (e2.trans e3);have r5:=R.sl.ups e13 g5;have hj:j<xs.length:=(aj.mp hv).1;refine ⟨p,xs,_,j,rfl,rfl,e13.sm.app p _ g3 g4,?_,w O' σ _ (R3.wr el g1 (r5.set rz j))⟩;unfold AX;rw [if_pos (by omega),if_pos (by omega),aS]
  ·exact w.elim
 ·exact q.elim
def ownInt (l:D)(b:TEd)(s:SS)(Q:List D->Int->Prop):Prop:=match l with
 | .lst l=>b.run s fun d=>match d with | .int z=>Q l z | _=>False
 | _=>False
theorem ownInt.mono {l:D}{b:TEd}{s:SS}{Q Q':List D->Int->Prop}(h:∀ l z,Q l z->Q' l z):ownInt l b s Q->ownInt l b s Q':=by
 cases l <;> first | exact id | skip
 exact b.mono fun d q=>by
  revert q;cases d <;> first | exact id | exact h _ _
def pY (fz:List Nat)(i j:Nat)(a b:TEd):TSd:=⟨fun E ss=>a.run (frz fz ss) fun d=>ownInt d b (frz fz ss) fun l z=>E.nx (((frz fz ss).set i (.own l)).set j (.val (.int z))),fun h q=>a.mono (fun d q=>ownInt.mono (fun l z q=>h.nx _ q) q) q⟩
theorem pY.weak {fz:List Nat}{i j:Nat}{D:Ends}{σ:St}{ta tb:TEd}(h:LS X.K (pY fz i j ta tb) D σ H):Iz i j (yf (LF X.K ta) (yf (LE X.K tb) FZ)) D σ H:=by
 obtain ⟨c,O,ss,R,q⟩:=h;obtain ⟨O',R⟩:=R.frz (fz:=fz);refine ⟨c.f,O',_,R.sl,ta.mono (fun d q=>?_) q⟩;cases d <;> first | exact False.elim q | skip
 rename_i l;refine ⟨l,rfl,fun p xs H1 e1 hp hx r=>?_⟩;have R1:=R.ex e1;refine R1.le q fun d' v' H2 R2 e2 r' w=>?_;cases d' <;> first | exact False.elim w | skip
 rename_i z;cases (show v'=_ from r');have pO:p ∉ O':=fun hO=>by
  obtain ⟨ys,hy⟩:=R.sl.al p hO;rw [hp] at hy;cases hy
 have kp:=e2.kp R1.sl.fO;have kp':Kp (p::O') H1 H2:=fun b o n h=>kp b o (fun z=>n (aw _ z)) h;have al':∀ b∈p::O',∃ xs,H1 b=some (.lst xs):=fun b hb=>by
  rcases au.mp hb with z | z
  ·exact ⟨xs,z ▸ hx⟩
  ·exact R1.sl.al b z
 have R3:=R.mkOwn (i:=i) (e1.trans e2) hp (kp p _ pO hx) (r.kp kp' al');exact ⟨.ref p,.int z,rfl,w (p::O') _ H2 (R3.to (R3.sl.set (i:=j) (d:=.int z) (v:=.int z) rfl) Sub.set)⟩
def startD (n:Nat)(ds:List D):SS:=ds.map SD.val++List.replicate (n-ds.length) SD.no
theorem startD.ok {N:List Str}{ds:List D}{vs:List V}(fl:Fl H f)(fO:f∈O)(al:∀ a∈O,∃ xs,H a=some (.lst xs))(lO:∀ l r,H f=some (.lst (.ref l::r))->l ∉ O)(r:Rps K f O H ds vs):StR K ⟨f,O,H,O⟩ O (L2.start N vs) H (startD N.length ds):=by
 have len:(startD N.length ds).length=(L2.start N vs).length:=by
  unfold startD L2.start;rw [aD,aD,aa,aa,bv,bv,r.len]
 have get:∀ {i:Nat} {s:SD},(startD N.length ds)[i]? = some s->(∃ d,s = .val d/\ds[i]? = some d)\/s = .no:=fun {i s} h=>by
  unfold startD at h;rcases ao i (ds.map SD.val).length with z | z
  ·rw [bx z,aO] at h;obtain ⟨d,h1,h2⟩:=ab.mp h;exact .inl ⟨d,h2.symm,h1⟩
  ·rw [bq z] at h;exact .inr (eE (aM h))
 refine ⟨⟨fl,fO,al,lO,len,fun i d h=>?_,fun i l h=>?_⟩,fun _ h=>h,⟨fun _ _ h _ _=>h,fun l r h=>⟨r,h⟩⟩,fun a h=>.inl h,fun i l a h=>?_⟩
 ·rcases get h with ⟨d',e,h1⟩ | e
  ·cases e;obtain ⟨v,h2,h3⟩:=r.get h1;refine ⟨v,?_,h3⟩;unfold L2.start;have hv:=(aj.mp h2).1;rw [bx (by rw [aa];exact hv),aO,h2];rfl
  ·cases e
 ·rcases get h with ⟨d',e,h1⟩ | e <;> cases e
 ·rcases get h with ⟨d',e,h1⟩ | e <;> cases e
@[reducible] def tf (Q:D->Prop):EndsD:=⟨fun _=>Q .non,Q,fun _=>False,fun _=>False⟩
def Does (n:Nat)(t:TSd)(s:SpB):Prop:=∀ ds Q,ds.length=s.n->s.run ds Q->t.run (tf Q) (startD n ds)
theorem Does.ok {t:TSd}{s:SpB}{N:List Str}(h:Does N.length t s){vs:List V}{Q:VK}{E:XK}(hs:BY K s.n s.run vs H Q E):LS K t { nx:=fun _ H'=>Q .non H',rt:=Q } (L2.start N vs) H:=by
 obtain ⟨hn,f,O,ds,fl,fO,al,lO,r,q⟩:=hs;refine ⟨⟨f,O,H,O⟩,O,_,startD.ok fl fO al lO r,?_⟩;have q:=h ds _ (r.len.symm.trans hn) q;refine t.mono ?_ q;refine ⟨fun s q O' σ' H' R=>?_,fun d q v H' R=>?_,fun _ q=>q.elim,fun _ q=>q.elim⟩
 ·exact q .non H' ⟨⟨fun b o n h=>R.kp.kp b o h n (by by_cases z:b∈O;exact .inl z;exact .inr z),R.kp.key⟩,R.sl.fl⟩ rfl
 ·exact q v H' ⟨⟨fun b o n h=>R.kp.kp b o h n (by by_cases z:b∈O;exact .inl z;exact .inr z),R.kp.key⟩,R.fl⟩ R.rp
end Dp
namespace Dp
open PySem L2
variable {K:Frag}{f:Addr}{O O':List Addr}{H H':Hp}{X:Cx}{σ:St}{ss:SS}{a b:Expr}{ta tb tc:TEd}{tA tB:TTd}{pos:Pos}{c:Cs}
def FM (K:Frag)(n:Nat)(sp:MN):Sp:=fun vs H Q _=>vs.length=n/\∃ f O ds,Fl H f/\f∈O/\(∀ a∈O,∃ xs,H a=some (.lst xs))/\(∀ l r,H f=some (.lst (.ref l::r))->l ∉ O)/\Rps K f O H ds vs/\sp ds fun d=>∃ l,d = .lst l/\∀ p xs H',Ex f H H'->H p=none->H' p=some (.lst xs)->Rps K f (p::O) H' l xs->Q (.ref p) H'
theorem iK.okF {e:Expr}{s:SpB}{t:TAd}(h:PE X e (z8 (FM X.K s.n s.run) [] E0 (LA X.K t))):PE X e (LF X.K (iK s t)):=h.weak fun σ H Q ⟨f,O,ss,S,q⟩ =>
 ⟨f,O,ss,S,t.mono (fun ds q vs H1 e1 r1=>by
  have S1:=S.ex e1;refine ⟨by rw [cL,r1.len];exact q.1,f,O,ds,S1.fl,S1.fO,S1.al,S1.lO,by rw [cL];exact r1,?_⟩;exact s.mono (fun d ⟨l,el,q⟩=>⟨l,el,fun p xs H' e hp hx r=>q p xs H' (e1.trans e) (e1.low (fun z=>S1.nO hp (z ▸ S1.fO)) hp) hx r⟩) q.2) q⟩
end Dp
namespace Dp
open PySem L2
variable {K:Frag}{f:Addr}{O O':List Addr}{H H':Hp}{X:Cx}{σ:St}{ss:SS}{a b:Expr}{ta tb tc:TEd}{tA tB:TTd}{pos:Pos}{c:Cs}
mutual
def D.lf:D->Bool
 | .tup ds=>D.lfs ds
 | .lst _=>false | .fl=>false
 | .exn _ _ ds=>D.lfs ds
 | .int _=>true | .str _=>true | .non=>true | .bl _=>true
def D.lfs:List D->Bool
 | []=>true
 | d::ds=>d.lf && D.lfs ds
end
mutual
theorem Rp.any:∀ {d:D} {v:V},d.lf=true->Rp K f O H d v->Rp K f O' H d v
 | .non,_,_,h=>h
 | .bl _,_,_,h=>h
 | .int _,_,_,h=>h
 | .str _,_,_,h=>h
 | .fl,_,z,_=>by cases z
 | .lst _,_,z,_=>by cases z
 | .tup l,v,z,h=>by
  obtain ⟨a,xs,e1,h1,h2⟩:=h;exact ⟨a,xs,e1,h1,Rps.any z h2⟩
 | .exn C x l,v,z,h=>by
  obtain ⟨a,us,e1,h1,h2⟩:=h;exact ⟨a,us,e1,h1,Rps.any z h2⟩
theorem Rps.any:∀ {ds:List D} {vs:List V},D.lfs ds=true->Rps K f O H ds vs->Rps K f O' H ds vs
 | [],_,_,h=>h
 | d::ds,_,z,h=>by
  have z:=ay.mp (show (d.lf && D.lfs ds)=true from z);obtain ⟨v,r,e1,h1,h2⟩:=h;exact ⟨v,r,e1,Rp.any z.1 h1,Rps.any z.2 h2⟩
end
end Dp
namespace Dp
open PySem L2
variable {K:Frag}{f:Addr}{O O':List Addr}{H H':Hp}{X:Cx}{σ:St}{ss:SS}{a b c:Expr}{ta tb tc:TEd}{pos:Pos}
def pZ (t:TEd):TEd:=⟨fun ss Q=>t.run ss fun d=>∃ i,d = .int i/\Q (.int ((Builtin.Int.intBits i:Nat):Int)),fun h q=>t.mono (fun d ⟨i,e,q⟩=>⟨i,e,h _ q⟩) q⟩
theorem pZ.ok {ap cp:Pos} (ha:PE X a (LE X.K ta)) (hb:attributeBase a "bit_length" X.env (eval a X.env)=eval a X.env) (hl:(ap.endLine == cp.line)=true):PE X (.Call (.Attribute a "bit_length" ap) [] [] cp) (LE X.K (pZ ta)):=by
 refine (Bk (apos:=ap) (cpos:=cp) PySem.F.plainAttrs_int PySem.F.slot_int_bit_length PySem.F.type_int_bit_length GF ha hb hl).weak fun σ H Q ⟨f,O,ss,S,q⟩=>?_;refine ⟨f,O,ss,S,ta.mono (fun d q v H1 e r=>?_) q⟩;obtain ⟨i,rfl,q⟩:=q;cases r;exact ⟨rfl,i,rfl,rfl,q _ H1 e rfl⟩
end Dp
namespace Dp
open PySem L2
variable {K:Frag}{f:Addr}{O O':List Addr}{H H':Hp}{X:Cx}{σ:St}{ss:SS}{pos:Pos}
def rT (fz:List Nat)(i:Nat)(e:TEd):TSd:=⟨fun E ss=>match (frz fz ss)[i]? with | some (.own l)=>e.run (frz fz ss) fun d=>∃ l',d = .lst l'/\l.length+l'.length<=sizeLine/\E.nx ((frz fz ss).set i (.own (l++l'))) | _=>False,fun {E E' ss} h q=>by
 revert q;split
 ·exact e.mono fun d ⟨l',a,b,q⟩=>⟨l',a,b,h.nx _ q⟩
 ·exact id⟩
theorem rT.ok {a:Expr} {ta:TEd} {fz:List Nat} {i:Nat} {x:Expr} {ap cp:Pos} (hx:PE X x (vz i)) (hb:attributeBase x "extend" X.env (eval x X.env)=eval x X.env) (h:PE X a (LE X.K ta)) (hs:starEach [a] X.env=[(false,eval a X.env)]) (hl:(ap.endLine == cp.line)=true) (hw:swapsWith (.Call (.Attribute x "extend" ap) [a] [] cp) none pos.line X.env=pure false) :
  PS X (.Expr (.Call (.Attribute x "extend" ap) [a] [] cp) pos) (LS X.K (rT fz i ta)):=by
 refine (yU (pos:=pos) (HF (apos:=ap) (cpos:=cp) PySem.F.plainAttrs_list PySem.F.slot_list_extend PySem.F.type_list_extend Dn hx (sZ h pa_nil hs) hb (by rw [hs];rfl) hl hs rfl) hw).weak fun D σ H ⟨c,O,ss,R,q⟩=>?_;obtain ⟨O',R⟩:=R.frz (fz:=fz);have q:(match (frz fz ss)[i]? with | some (.own l)=>ta.run (frz fz ss) fun d=>∃ l',d = .lst l'/\l.length+l'.length<=sizeLine/\(vx X.K c D).nx ((frz fz ss).set i (.own (l++l'))) | _=>False):=q;split at q
 ·rename_i l el;obtain ⟨p,xs,h1,h2,h3,h4,h5⟩:=R.sl.own i l el;refine ⟨_,h1,.inl ⟨rfl,xs,SqL.of h4⟩,R.le q fun d v H1 R1 e1 r ⟨l',ed,w1,w2⟩=>?_⟩;subst ed;obtain ⟨b,zs,rfl,nb,hb',rs⟩:=r;have hp:=e1.sm.app p _ h3 h4;have r5:=R.sl.ups e1 h5;exact ⟨p,b,xs,zs,rfl,rfl,hp,hb',by rw [r5.len,rs.len];exact w1,w2 O' σ _ (R1.wr el h1 (r5.append rs))⟩
 ·exact q.elim
end Dp
namespace Dp
open PySem L2
variable {K:Frag}{X:Cx}{T:Tc}{pos p p2:Pos}{a b e:Expr}{E:FE}{F:FT}
theorem _root_.L2.PTs.weak {es:List Expr}{t t':TT}(h:PTs X es t)(w:∀ σ H Q,t' σ H Q->t σ H Q):PTs X es t':=fun pins s σ H Q I q=>h pins s σ H Q I (w σ H Q q)
end Dp
namespace Dp
open PySem L2
variable {P:Program}{w:World}{K:Frag}{mg:Str->Option Value}{base:Heap}
def xo (K:Frag):Sp:=fun vs H Q _=>∃ (a:Addr) (ns:List Int),vs=[.ref a]/\SqL K H a (ns.map V.int)/\ns.length<=63/\∀ f H',Same H H'->Fl H' f->H f=none->Q (.ref f) H'
def yO:Sp:=fun vs H Q _=>∃ (f:Addr) (m:Int),vs=[.ref f,.int m]/\Fl H f/\0<m/\Lt2 9000 m/\∀ d H',0<=d->d<m->Fl H' f->Sm f H H'->Q (.int d) H'
def B5 (K:Frag):Sp:=fun vs H Q _=>∃ (a:Addr) (ns:List Int),vs=[.ref a]/\SqL K H a (ns.map V.int)/\ns.length<=63/\∀ H',Q (.bl true) H'
def iN:SpB:=.of 2 (α:=Int) (fun m ds=>ds=[.fl,.int m]/\0<m/\Lt2 9000 m) (fun m d=>∃ i,d = .int i/\0<=i/\i<m)
theorem C9 {k:Nat} {ps:List Str} (g:Def P w K mg base "_law_pick" k ps yO):Def P w K mg base "_law_pick" k ps (BY K iN.n iN.run):=by
 obtain ⟨f,fd,F,r⟩:=g.ex;refine ⟨f,fd,F.imp (fun vs H Q E h=>?_),r⟩;obtain ⟨hn,f,O,ds,fl,fO,al,lO,rp,m,⟨rfl,m0,m1⟩,q⟩:=h;obtain ⟨v,v',rfl,e1,e2⟩:=Rps.two rp;cases (show v=_ from e1);cases (show v'=_ from e2);exact ⟨f,m,rfl,fl,m0,m1,fun d H' d0 d1 fl' sm=>q (.int d) ⟨d,rfl,d0,d1⟩ _ H' ⟨sm,fl'⟩ rfl⟩
end Dp
namespace Ds
section
open PySem L2 Dp
variable {X:Cx}
def bTb:List (Str×Bool×String×BB):=[("len",true, "len",⟨bLen,bLen.mono⟩),("abs",true, "abs",⟨bAbs,bAbs.mono⟩),("all",true, "all",⟨bAll,bAll.mono⟩),("sum",true, "sum",⟨bSum,bSum.mono⟩),("max",true, "max",⟨bMax,bMax.mono⟩),("int",false, "int",⟨bInt,bInt.mono⟩),("tuple",false, "tuple",⟨bTuple,bTuple.mono⟩),("sorted",true, "sorted",⟨bSorted,bSorted.mono⟩)]
def M6 (x:Str):Option (Bool×String×BB):=bTb.lookup x
theorem J1 {j:Nat}(hr:Room j X.A)(hc:X.calm=true)(B:Bl X.mg){x:Str}{k:Bool}{id:String}{o:BB}(h:M6 x=some (k,id,o)):X.mg x=none/\x ≠ "__name__" /\ (x == ("__debug__" : Str))=false/\(if k then bootBuiltins x=some (.builtin id)/\RB X (.builtin id) o.run else bootBuiltins x=some (.type id)/\RB X (.type id) o.run):=by
 have m:=tP h;unfold bTb at m;rcases au.mp m with e | m
 ·cases e;exact ⟨B.len,by decide,by decide,BT,Ee⟩
 rcases au.mp m with e | m
 ·cases e;exact ⟨B.abs,by decide,by decide,JW,IU⟩
 rcases au.mp m with e | m
 ·cases e;exact ⟨B.all,by decide,by decide,JV,IT hc⟩
 rcases au.mp m with e | m
 ·cases e;exact ⟨B.sum,by decide,by decide,JS,IQ hc⟩
 rcases au.mp m with e | m
 ·cases e;exact ⟨B.max,by decide,by decide,JT,IR hc⟩
 rcases au.mp m with e | m
 ·cases e;exact ⟨B.int,by decide,by decide,JU,IS⟩
 rcases au.mp m with e | m
 ·cases e;exact ⟨B.tuple,by decide,by decide,FF,Ec⟩
 rcases au.mp m with e | m
 ·cases e;exact ⟨B.sorted,by decide,by decide,DF,C6 hr⟩
 cases m
end
section
open PySem L2 Dp
variable {K:Frag}{f:Addr}{O O':List Addr}{H H':Hp}{X:Cx}{σ:L2.St}{ss:SS}{a b:Expr}{ta tb tc:TEd}{tA tB:TTd}{pos:Pos}{c:Cs}
structure Tc where
 N:List Str
 sc:Scope
 G:List (Str×Nat×SpB)
 gc:List (Str×D)
 k:Nat
 fz:List (Nat×List Nat):=[]
 own:List Nat:=[]
 mu:List Nat:=[]
 gn:List (Str×Nat×SpB):=[]
def Tc.frz (T:Tc)(p:Pos):List Nat:=(T.fz.lookup p.line).getD []
def GP (x:Str):List Str->Option Nat
 | []=>none
 | y::r=>if x=y then some 0 else (GP x r).map (· + 1)
theorem zj {x:Str}:∀ {N:List Str} {i:Nat},GP x N=some i->N[i]? = some x
 | [],_,h=>by cases h
 | y::r,i,h=>by
  unfold GP at h;by_cases e:x=y
  ·rw [if_pos e] at h;cases h;rw [e];rfl
  ·rw [if_neg e] at h;obtain ⟨j,h1,rfl⟩:=ab.mp h;rw [List.getElem?_cons_succ];exact zj h1
def K0:Option NameKind->Bool
 | some .local=>true | some .cell=>true | some .free=>true | _=>false
def J8 (x:Str):Bool:=!(x == ("__debug__" : Str)) && !(x == ("__classdict__" : Str))
def Tc.slot (T:Tc)(x:Str):Option Nat:=if K0 (T.sc.names.lookup x) && J8 x then GP x T.N else none
def Tc.isG (T:Tc)(x:Str):Bool:=(T.sc.names.lookup x == some .globalImplicit) && J8 x
structure CtxOk (T:Tc)(X:Cx):Prop where
 N:X.N=T.N
 nd:X.N.Nodup
 calm:X.calm=true
 room:Room T.k X.A
 vis:∀ x,K0 (T.sc.names.lookup x)=true->Io X.env.scope x
 gl:∀ x,T.sc.names.lookup x=some .globalImplicit->Gl X x
 loc:∀ x,T.sc.names.lookup x=some .local->X.env.scope.names.lookup x=some .local
 cf:∀ x,(T.sc.names.lookup x=some .cell\/T.sc.names.lookup x=some .free)->(X.env.scope.names.lookup x=some .cell\/X.env.scope.names.lookup x=some .free)
 fn:∀ x j s,(x,j,s)∈T.G->∃ ps,Def X.prog X.w X.K X.mg X.base x j ps (BY X.K s.n s.run)
 gc:∀ x d,(x,d)∈T.gc->∃ v u,X.mg x=some u/\RelV v u/\∀ f O H,Rp X.K f O H d v
 bl:Bl X.mg
 cel:∀ x,T.sc.names.lookup x=some .cell->X.env.scope.names.lookup x=some .cell/\X.fn x=true
 gn:∀ x j s,(x,j,s)∈T.gn->∃ ps,Def X.prog X.w X.K X.mg X.base x j ps (FM X.K s.n s.run)
theorem HN {x:Str}(h:J8 x=true):(x == ("__debug__" : Str))=false:=by
 unfold J8 at h;rw [ay] at h;exact dX _ |>.mp h.1
theorem KU {x:Str}(h:J8 x=true):(x == ("__classdict__" : Str))=false:=by
 unfold J8 at h;rw [ay] at h;exact dX _ |>.mp h.2
variable {T:Tc}
theorem CtxOk.var (C:CtxOk T X){x:Str}{i:Nat}{p:Pos}(h:T.slot x=some i):PE X (.Name x p) (vz i):=by
 unfold Tc.slot at h;split at h
 ·rename_i e;obtain ⟨e1,e2⟩:=ay.mp e;exact Bh (by rw [C.N];exact zj h) (C.vis x e1) (HN e2) (KU e2)
 ·cases h
theorem CtxOk.slot (C:CtxOk T X){x:Str}{i:Nat}(h:T.slot x=some i):X.N[i]? = some x:=by
 unfold Tc.slot at h;split at h
 ·rw [C.N];exact zj h
 ·cases h
def DL:Option NameKind->Bool
 | some .local=>true | some .cell=>true | _=>false
theorem CtxOk.tgt (C:CtxOk T X){x:Str}{i:Nat}{p:Pos}(hl:DL (T.sc.names.lookup x)=true)(hs:T.slot x=some i):PG X (.Name x p) (yx i):=by
 cases q:T.sc.names.lookup x with
 | none=>rw [q] at hl;cases hl
 | some k =>
  rw [q] at hl;cases k <;> first | (cases hl;done) | skip
  ·exact Ci C.nd (C.slot hs) (.inl (C.loc x q)) (.inr (C.loc x q))
  ·exact Ci C.nd (C.slot hs) (.inr (C.cel x q).1) (.inl (C.cel x q).2)
theorem CtxOk.isG (C:CtxOk T X){x:Str}(h:T.isG x=true):Gl X x/\(x == ("__debug__" : Str))=false:=by
 obtain ⟨e1,e2⟩:=ay.mp h;exact ⟨C.gl x (eq_of_beq e1),HN e2⟩
def tH:Expr->Bool
 | .Starred .. => false | .Slice .. => false | .Set .. => false | .SetComp .. => false | .DictComp .. => false
 | _=>true
theorem td {e:Expr}(h:tH e=true)(es:List Expr)(env:Env):starEach (e::es) env=(false,eval e env)::starEach es env:=by
 cases e <;> first | rfl | cases h
theorem Cr {e:Expr}(h:tH e=true):xj e:=by
 cases e <;> first | exact fun _ _=>rfl | cases h
theorem xf {e:Expr}(h:tH e=true)(op:CmpOp):behindInMarks op e=false:=by
 cases e <;> first | rfl | cases h
theorem wn {e:Expr}(h:tH e=true)(env:Env)(x:Value):foldedSetIterable e env x=pure x:=by
 cases e <;> first | rfl | cases h
def uE:Expr->Bool
 | .ListComp .. => true | .SetComp .. => true | .DictComp .. => true
 | _=>false
theorem wm {e:Expr}(h:uE e=false)(t:Option Expr)(l:Nat)(env:Env):swapsWith e t l env=pure false:=by
 cases e <;> first | rfl | cases h
def Im:Expr->Bool
 | .UnaryOp .Not _ _=>false | .BoolOp .. => false | .IfExp .. => false | .Compare .. => false
 | _=>true
theorem FB {e:Expr}(h:Im e=true)(env:Env)(whole:Sem Value):isTrue e env whole=(do let v ← whole;standAt e.pos;holding [v] (truthy v)):=by
 cases e with
 | UnaryOp op a p=>cases op <;> first | rfl | cases h
 | BoolOp=>cases h
 | IfExp=>cases h
 | Compare=>cases h
 | _=>rfl
def uq (N:List Str)(scope:Scope):List Nat:=(List.range N.length).filter fun i=>DL (scope.names.lookup (N.getD i ""))
def D4 (out scope:Scope):Bool:=decide (scope.kind = .function) && scope.names.all (fun y=>decide (scope.names.lookup y.1=some y.2)) && scope.names.all (fun y=>decide (y.2 ≠ .free) || decide (out.names.lookup y.1=some .cell) || decide (out.names.lookup y.1=some .free))
theorem CtxOk.compS (C:CtxOk T X){scope:Scope}(h:D4 T.sc scope=true):CompS X.N X.env.scope scope (uq T.N scope):=by
 unfold D4 at h;rw [ay,ay] at h;obtain ⟨⟨h1,h2⟩,h3⟩:=h;have one:∀ y∈scope.names,scope.names.lookup y.1=some y.2:=fun y hy=>of_decide_eq_true (cB.mp h2 y hy);refine ⟨of_decide_eq_true h1,one,fun y hy e=>?_,fun y hy e=>e ▸ one y hy,fun i hi e=>?_⟩
 ·have:=cB.mp h3 y hy;rw [Bool.or_eq_true,Bool.or_eq_true] at this;rcases this with (w | w) | w
  ·exact absurd e (of_decide_eq_true w)
  ·exact C.cf _ (.inl (of_decide_eq_true w))
  ·exact C.cf _ (.inr (of_decide_eq_true w))
 ·rw [C.N] at hi e;exact cr.mpr ⟨ff.mpr hi,by rcases e with e | e <;> rw [e] <;> rfl⟩
theorem CtxOk.inner (C:CtxOk T X){scope:Scope}(s2:Shared)(H2:Hp)(fp:List Addr)(pins:List (Addr×Obj))(A:Addr):CtxOk { T with sc:=scope } (vh X scope s2 H2 fp pins A) where
 N:=C.N
 nd:=C.nd
 calm:=C.calm
 room:=C.room
 vis:=fun x h=>by
  have e:(vh X scope s2 H2 fp pins A).env.scope.names.lookup x=(scope.names.lookup x).map (vL X.env x):=vX;have h:K0 (scope.names.lookup x)=true:=h;unfold Io;rw [e];cases q:scope.names.lookup x with
  | none=>rw [q] at h;cases h
  | some k =>
   rw [q] at h;cases k
   ·exact .inl rfl
   ·exact .inr (.inl rfl)
   ·show some (vL X.env x .free)=_\/some (vL X.env x .free)=_\/some (vL X.env x .free)=_;unfold vL;split
    ·exact .inr (.inl rfl)
    ·exact .inr (.inr rfl)
   ·cases h
   ·cases h
 gl:=fun x h=>by
  have e:(vh X scope s2 H2 fp pins A).env.scope.names.lookup x=(scope.names.lookup x).map (vL X.env x):=vX;have h:scope.names.lookup x=some .globalImplicit:=h;unfold Gl Env.kindOf;rw [e,h];rfl
 loc:=fun x h=>by
  have e:(vh X scope s2 H2 fp pins A).env.scope.names.lookup x=(scope.names.lookup x).map (vL X.env x):=vX;have h:scope.names.lookup x=some .local:=h;rw [e,h];rfl
 cf:=fun x h=>by
  have e:(vh X scope s2 H2 fp pins A).env.scope.names.lookup x=(scope.names.lookup x).map (vL X.env x):=vX;have h:scope.names.lookup x=some .cell\/scope.names.lookup x=some .free:=h;rw [e];rcases h with h | h
  ·rw [h];exact .inl rfl
  ·rw [h];show some (vL X.env x .free)=_\/some (vL X.env x .free)=_;unfold vL;split
   ·exact .inl rfl
   ·exact .inr rfl
 fn:=C.fn
 gc:=C.gc
 bl:=C.bl
 cel:=fun x h=>by
  have e:(vh X scope s2 H2 fp pins A).env.scope.names.lookup x=(scope.names.lookup x).map (vL X.env x):=vX;have h:scope.names.lookup x=some .cell:=h;refine ⟨by rw [e,h];rfl,?_⟩;show (scope.names.lookup x == some .cell)=true;rw [h];rfl
 gn:=C.gn
def LY:Const->Option D
 | .int i=>some (.int i) | .bool b=>some (.bl b) | .str x=>some (.str x) | .none=>some .non | _=>none
def K6 (T:Tc)(x:Str):Option D:=T.gc.lookup x
def A7 (T:Tc):List Expr->Option (List Nat)
 | []=>some []
 | .Name x _::r=>if DL (T.sc.names.lookup x)=true then (T.slot x).bind fun i=>(A7 T r).map (i :: ·) else none
 | _=>none
def LH (T:Tc):Expr->Option TGd
 | .Name x _=>if DL (T.sc.names.lookup x)=true then (T.slot x).map gNm else none
 | .Tuple es _ _=>(A7 T es).map gTp
 | _=>none
def zf (T:Tc)(x:Str)(as:List Expr):Option Nat:=if x = "len" then (match as with
 | [.Name y _]=>(T.slot y).bind fun i=>if T.mu.contains i then some i else none
 | _=>none) else none
theorem Dq {x:Str}{as:List Expr}{i:Nat}(h:zf T x as=some i):x = "len" /\ ∃ y p,as=[.Name y p]/\T.slot y=some i:=by
 unfold zf at h;split at h
 ·rename_i ex;split at h
  ·rename_i y p;obtain ⟨j,h1,h⟩:=af.mp h;split at h
   ·cases h;exact ⟨ex,y,p,rfl,h1⟩
   ·cases h
  ·cases h
 ·cases h
abbrev FE:=Expr->Option TEd
abbrev FT:=Expr->Option TTd
abbrev FA:=List Expr->Option TAd
def two (E:FE)(a b:Expr)(k:TEd->TEd->TEd):Option TEd:=(E a).bind fun ta=>(E b).map fun tb=>k ta tb
def Lh (E:FE)(a:Expr):List CmpOp->List Expr->Option TEd
 | [op],[b]=>if tH b then two E a b (iR op) else none
 | [op,op'],[b,c]=>if tH b && tH c then (E a).bind fun ta=>(E b).bind fun tb=>(E c).map fun tc=>jM op op' ta tb tc else none
 | _,_=>none
def Lg (E:FE)(a:Expr):List CmpOp->List Expr->Option TTd
 | [op],[b]=>if tH b then (two E a b (iR op)).map iQ else none
 | [op,op'],[b,c]=>if tH b && tH c then (E a).bind fun ta=>(E b).bind fun tb=>(E c).map fun tc=>iQ (jM op op' ta tb tc) else none
 | _,_=>none
def MS (E:FE)(a:Expr):UnaryOp->Option TEd
 | .USub=>(E a).map mr
 | .Not=>(E a).map rQ
 | _=>none
def M5 (E:FE)(p:Pos)(op:BoolOp):List Expr->Option TEd
 | [a]=>E a
 | a::b::r=>(E a).bind fun ta=>(E (.BoolOp op (b::r) p)).map fun tb=>match op with | .And=>qI ta tb | .Or=>dOr ta tb
 | []=>none
def M1 (F:FT)(p:Pos)(op:BoolOp):List Expr->Option TTd
 | [a]=>F a
 | a::b::r=>(F a).bind fun ta=>(F (.BoolOp op (b::r) p)).map fun tb=>match op with | .And=>kr ta tb | .Or=>kG ta tb
 | []=>none
def Ar (E:FE):Option Expr->Option TOd
 | none=>some dNo
 | some e=>(E e).map oC
def GS:Expr->Bool
 | .UnaryOp .USub (.Constant (.int i) _ _) _=>i == 1
 | _=>false
def Mo (T:Tc)(x:Str):Option TEd:=match T.slot x with
 | some i=>some (iI i)
 | none=>if T.isG x then (K6 T x).map dC else none
def EG (T:Tc):Expr->Option Nat
 | .Name x _=>(T.slot x).bind fun i=>if T.mu.contains i then some i else none
 | _=>none
def MY (E:FE)(T:Tc)(a b:Expr):Option TEd:=if tH b then (match EG T a with
  | some i=>(E b).map (oQ i)
  | none=>two E a b dIx) else none
def Ks (E:FE)(T:Tc)(a:Expr):Expr->Option TEd
 | .Slice lo hi st _=>(match st with
  | none=>(E a).bind fun ta=>(Ar E lo).bind fun tl=>(Ar E hi).map fun tu=>dSl ta tl tu
  | some m=>if lo.isNone && hi.isNone && GS m then (E a).map qK else none)
 | b=>MY E T a b
def Fy (E:FE)(A:FA)(T:Tc)(x:Str)(as:List Expr):Option TEd:=match T.G.lookup x with
 | some (j,s)=>if decide (j<=T.k) && !as.isEmpty then (A as).map (iK s) else none
 | none=>(M6 x).bind fun o=>match zf T x as with
   | some i=>some (me i)
   | none=>if as.isEmpty then none else (A as).map (dB o.2.2.run o.2.2.mono)
def JF (E:FE)(T:Tc)(tg e:Expr):Option TAd:=match e with
 | .Call (.Name x _) [a] [] _=>if x = "range" then (if tH a && T.isG "range" then (E a).map ms else none)
  else if x = "enumerate" then (match tg with
   | .Tuple .. => if tH a && T.isG "enumerate" then (E a).map jg else none
   | _=>none)
  else if x = "reversed" then (if tH a && T.isG "reversed" then (E a).map m5 else none)
  else (E e).map i5
 | .Call (.Name x _) [a,b] [] _=>if x = "range" then (if tH a && tH b && T.isG "range" then (E a).bind fun ta=>(E b).map (kH ta) else none)
  else (E e).map i5
 | e=>(E e).map i5
def CT (I:Option TAd)(E:FE)(F:FT)(T:Tc)(e tg:Expr)(ifs:List Expr)(sc:Scope):Option TEd:=I.bind fun ti=>(LH { T with sc:=sc } tg).bind fun g =>
 if g.tg.all (fun i=>(uq T.N sc).contains i) then (E e).bind fun te=>(match ifs with
  | []=>some (iT ti (uq T.N sc) g i9 te)
  | [k]=>(F k).map fun tk=>iT ti (uq T.N sc) g tk te
  | _=>none) else none
def v7 (E:FE):FA
 | []=>some iJ
 | e::r=>if tH e then (E e).bind fun te=>(v7 E r).map fun tr=>iH te tr else none
def zK (E:FE)(T:Tc)(cp:Pos)(as:List Expr)(ks:List Keyword):Expr->Option TEd
 | .Name x _=>if ks.isEmpty && T.isG x then Fy E (v7 E) T x as else none
 | .Attribute (.Name x p) m ap=>if m = "bit_length" then (if ks.isEmpty && as.isEmpty && (ap.endLine == cp.line) then (E (.Name x p)).map pZ else none) else none
 | _=>none
def E8:List Comprehension->Option (Expr×Expr×List Expr)
 | [⟨tg,it,ifs,0⟩]=>if tH it then some (tg,it,ifs) else none
 | _=>none
mutual
def tY:Nat->Tc->Expr->Option TEd
 | 0,_,_=>none
 | n+1,T,e=>match e with
  | .Name x _=>Mo T x
  | .Constant k _ _=>(LY k).map dC
  | .BinOp a op b _=>two (tY n T) a b (iL op)
  | .Compare a ops bs _=>Lh (tY n T) a ops bs
  | .UnaryOp op a _=>MS (tY n T) a op
  | .BoolOp op vs p=>M5 (tY n T) p op vs
  | .IfExp k a b _=>(z6 n T k).bind fun tk=>two (tY n T) a b (qJ tk)
  | .Tuple es _ _=>(v7 (tY n T) es).map iZ
  | .List es _=>(v7 (tY n T) es).map iY
  | .Subscript a b _=>Ks (tY n T) T a b
  | .Call g as ks p=>zK (tY n T) T p as ks g
  | .ListComp e gs sc _=>if D4 T.sc sc then (E8 gs).bind fun (tg,it,ifs)=>CT (JF (tY n T) T tg it) (tY n { T with sc:=sc }) (z6 n { T with sc:=sc }) T e tg ifs sc else none
  | _=>none
def z6:Nat->Tc->Expr->Option TTd
 | 0,_,_=>none
 | n+1,T,e=>match e with
  | .Compare a ops bs _=>Lg (tY n T) a ops bs
  | .UnaryOp op a p=>if op = .Not then (z6 n T a).map jz else (tY n T (.UnaryOp op a p)).map jZ
  | .BoolOp op vs p=>M1 (z6 n T) p op vs
  | .IfExp .. => none
  | e=>(tY n T e).map jZ
end
end
section
open PySem L2 Dp
variable {K:Frag}{X:Cx}{T:Tc}{pos p p2:Pos}{a b e:Expr}{E:FE}{F:FT}
def yJ (X:Cx)(E:FE):Prop:=∀ {e:Expr} {t:TEd},E e=some t->PE X e (LE X.K t)
def LW (X:Cx)(F:FT):Prop:=∀ {e:Expr} {t:TTd},F e=some t->PT X e (LT X.K t)
theorem K5 (C:CtxOk T X){x:Str}{d:D}(hg:T.isG x=true)(h:K6 T x=some d):PE X (.Name x p) (LE X.K (dC d)):=by
 obtain ⟨g1,g2⟩:=C.isG hg;obtain ⟨v,u,h1,h2,h3⟩:=C.gc x d (tP h);exact dC.ok (Gg g1 h1 h2 g2) h3
theorem Ix {k:Const}{d:D}{j:Nat}(h:LY k=some d):PE X (.Constant k j pos) (LE X.K (dC d)):=by
 cases k <;> first | (cases h;done) | skip
 all_goals (cases h)
 all_goals first | exact dC.ok sU fun _ _ _=>rfl | exact dC.ok KP fun _ _ _=>rfl | exact dC.ok Jf fun _ _ _=>rfl | exact dC.ok Ji fun _ _ _=>rfl
theorem wZ (C:CtxOk T X):∀ {es:List Expr} {is:List Nat},A7 T es=some is->Lv X es (gsAll is)/\(assignEach es X.env).length=is.length/\(assignEach es X.env).findIdx? (·.1)=none
 | [],is,h=>by
  cases h;exact ⟨Gf,rfl,rfl⟩
 | a::r,is,h=>by
  cases a <;> first | (cases h;done) | skip
  rename_i x p;obtain ⟨hl,h⟩:=ae.mp (show (if DL (T.sc.names.lookup x)=true then (T.slot x).bind fun i=>(A7 T r).map (i :: ·) else none)=some is from h);obtain ⟨i,h1,h⟩:=af.mp h;obtain ⟨is',h2,rfl⟩:=ab.mp h;obtain ⟨q1,q2,q3⟩:=wZ C h2;refine ⟨Eu (C.tgt hl h1) q1 rfl,?_,?_⟩
  ·show ((false,assign (.Name x p) X.env)::assignEach r X.env).length=_;rw [bg,q2];rfl
  ·show ((false,assign (.Name x p) X.env)::assignEach r X.env).findIdx? (·.1)=none;rw [List.findIdx?_cons,q3];rfl
theorem A9 (C:CtxOk T X){e:Expr}{g:TGd}(h:LH T e=some g):PG X e (LG X.K g):=by
 cases e <;> first | (cases h;done) | skip
 ·rename_i x p;obtain ⟨hl,h⟩:=ae.mp (show (if DL (T.sc.names.lookup x)=true then (T.slot x).map gNm else none)=some g from h);obtain ⟨i,h1,rfl⟩:=ab.mp h;exact gNm.ok (C.tgt hl h1)
 ·rename_i es k p;obtain ⟨is,h1,rfl⟩:=ab.mp (show (A7 T es).map gTp=some g from h);obtain ⟨q1,q2,q3⟩:=wZ C h1;exact gTp.ok (Bg C.calm q1 q2 q3)
theorem wa {k:TEd->TEd->TEd}{t:TEd}(h:two E a b k=some t):∃ ta tb,E a=some ta/\E b=some tb/\t=k ta tb:=by
 obtain ⟨ta,h1,h⟩:=af.mp h;obtain ⟨tb,h2,rfl⟩:=ab.mp h;exact ⟨ta,tb,h1,h2,rfl⟩
theorem Hc (C:CtxOk T X)(ih:yJ X E):∀ {ops:List CmpOp} {bs:List Expr} {t:TEd},Lh E a ops bs=some t->PE X (.Compare a ops bs pos) (LE X.K t)
 | [op],[b],t,h=>by
  obtain ⟨hn,h⟩:=ae.mp h;obtain ⟨ta,tb,h1,h2,rfl⟩:=wa h;exact iR.ok C.room (ih h1) (ih h2) (xf hn _)
 | [op,op'],[b,c],t,h=>by
  obtain ⟨hn,h⟩:=ae.mp h;obtain ⟨n1,n2⟩:=ay.mp hn;obtain ⟨ta,h1,h⟩:=af.mp h;obtain ⟨tb,h2,h⟩:=af.mp h;obtain ⟨tc,h3,rfl⟩:=ab.mp h;exact jM.ok C.room (ih h1) (ih h2) (ih h3) (xf n2 _)
 | [],_,_,h=>by cases h
 | [_],[],_,h=>by cases h
 | [_],_::_::_,_,h=>by cases h
 | [_,_],[],_,h=>by cases h
 | [_,_],[_],_,h=>by cases h
 | [_,_],_::_::_::_,_,h=>by cases h
 | _::_::_::_,_,_,h=>by cases h
theorem Hb (C:CtxOk T X)(ih:yJ X E):∀ {ops:List CmpOp} {bs:List Expr} {t:TTd},Lg E a ops bs=some t->PT X (.Compare a ops bs pos) (LT X.K t)
 | [op],[b],t,h=>by
  obtain ⟨hn,h⟩:=ae.mp h;obtain ⟨t0,h0,rfl⟩:=ab.mp h;obtain ⟨ta,tb,h1,h2,rfl⟩:=wa h0;exact iR.test C.room (ih h1) (ih h2) (xf hn _)
 | [op,op'],[b,c],t,h=>by
  obtain ⟨hn,h⟩:=ae.mp h;obtain ⟨n1,n2⟩:=ay.mp hn;obtain ⟨ta,h1,h⟩:=af.mp h;obtain ⟨tb,h2,h⟩:=af.mp h;obtain ⟨tc,h3,rfl⟩:=ab.mp h;exact jM.test C.room (ih h1) (ih h2) (ih h3) (xf n2 _)
 | [],_,_,h=>by cases h
 | [_],[],_,h=>by cases h
 | [_],_::_::_,_,h=>by cases h
 | [_,_],[],_,h=>by cases h
 | [_,_],[_],_,h=>by cases h
 | [_,_],_::_::_::_,_,h=>by cases h
 | _::_::_::_,_,_,h=>by cases h
theorem Iu (ih:yJ X E){op:UnaryOp}{t:TEd}(h:MS E a op=some t):PE X (.UnaryOp op a pos) (LE X.K t):=by
 cases op <;> first | (cases h;done) | skip
 ·obtain ⟨ta,h1,rfl⟩:=ab.mp (show (E a).map rQ=some t from h);exact rQ.ok (ih h1)
 ·obtain ⟨ta,h1,rfl⟩:=ab.mp (show (E a).map mr=some t from h);exact mr.ok (ih h1)
theorem JZ (ih:yJ X E):∀ {op:BoolOp} {vs:List Expr} {t:TEd},M5 E p op vs=some t->PE X (.BoolOp op vs p) (LE X.K t)
 | _,[a],_,h=>Jg (ih h)
 | .And,a::b::r,t,h=>by
  obtain ⟨ta,h1,h⟩:=af.mp h;obtain ⟨tb,h2,rfl⟩:=ab.mp h;exact qI.ok (ih h1) (ih h2)
 | .Or,a::b::r,t,h=>by
  obtain ⟨ta,h1,h⟩:=af.mp h;obtain ⟨tb,h2,rfl⟩:=ab.mp h;exact dOr.ok (ih h1) (ih h2)
 | _,[],_,h=>by cases h
theorem JY (ih:LW X F)(iw:∀ {op:BoolOp} {vs:List Expr} {p:Pos} {t:TTd},F (.BoolOp op vs p)=some t->PW X (.BoolOp op vs p) (LT X.K t)):∀ {op:BoolOp} {vs:List Expr} {t:TTd},M1 F p op vs=some t->PW X (.BoolOp op vs p) (LT X.K t)
 | .And,[a],_,h=>Cd (ih h)
 | .Or,[a],_,h=>IY (ih h)
 | .And,a::b::r,t,h=>by
  obtain ⟨ta,h1,h⟩:=af.mp h;obtain ⟨tb,h2,rfl⟩:=ab.mp h;exact kr.ok (ih h1) (iw h2)
 | .Or,a::b::r,t,h=>by
  obtain ⟨ta,h1,h⟩:=af.mp h;obtain ⟨tb,h2,rfl⟩:=ab.mp h;exact kG.ok (ih h1) (iw h2)
 | _,[],_,h=>by cases h
theorem Aq (ih:yJ X E):∀ {o:Option Expr} {t:TOd},Ar E o=some t->PO X o (LO X.K t)
 | none,_,h=>by
  cases h;exact dNo.ok
 | some e,t,h=>by
  obtain ⟨ta,h1,rfl⟩:=ab.mp h;exact oC.ok (ih h1)
theorem GR {m:Expr}(h:GS m=true):∃ j p1 p3,m = .UnaryOp .USub (.Constant (.int 1) j p1) p3:=by
 unfold GS at h;split at h
 ·rename_i i j p1 p3;have e:i=1:=eq_of_beq h;exact ⟨j,p1,p3,by rw [e]⟩
 ·cases h
theorem EF (C:CtxOk T X){i:Nat}(h:EG T a=some i):PE X a (vz i):=by
 cases a <;> first | (cases h;done) | skip
 obtain ⟨j,h1,h⟩:=af.mp h;obtain ⟨_,h⟩:=ae.mp h;cases h;exact C.var h1
theorem F0 (C:CtxOk T X)(ih:yJ X E){t:TEd}(h:Ks E T a b=some t):PE X (.Subscript a b pos) (LE X.K t):=by
 have key:∀ {b:Expr},MY E T a b=some t->PE X (.Subscript a b pos) (LE X.K t):=fun {b} h=>by
  obtain ⟨hn,h⟩:=ae.mp h;cases ho:EG T a with
  | some i =>
   rw [ho] at h;obtain ⟨tb,h2,rfl⟩:=ab.mp h;exact oQ.ok (EF C ho) (ih h2) (Cr hn)
  | none =>
   rw [ho] at h;obtain ⟨ta,tb,h1,h2,rfl⟩:=wa h;exact dIx.ok (ih h1) (ih h2) (Cr hn)
 cases b;case Slice lo hi st p2 =>
  cases st with
  | none =>
   obtain ⟨tk,h0,h⟩:=af.mp (show (E a).bind (fun ta=>(Ar E lo).bind fun tl=>(Ar E hi).map fun tu=>dSl ta tl tu)=some t from h);obtain ⟨ta,h1,h⟩:=af.mp h;obtain ⟨tb,h2,rfl⟩:=ab.mp h;exact dSl.ok (ih h0) (Aq ih h1) (Aq ih h2)
  | some m =>
   obtain ⟨hm,h⟩:=ae.mp (show (if lo.isNone && hi.isNone && GS m then (E a).map qK else none)=some t from h);obtain ⟨hm,m1⟩:=ay.mp hm;obtain ⟨l1,l2⟩:=ay.mp hm;cases lo <;> cases hi <;> first | (cases l1;done) | (cases l2;done) | skip
   obtain ⟨j,p1,p3,rfl⟩:=GR m1;obtain ⟨ta,h1,rfl⟩:=ab.mp h;exact qK.ok (k:=0) (ih h1)
 all_goals exact key h
theorem um (ih:yJ X E):∀ {es:List Expr} {t:TAd},v7 E es=some t->PA X es (LA X.K t)
 | [],t,h=>by
  cases h;exact iJ.ok
 | e::r,t,h=>by
  obtain ⟨hn,h⟩:=ae.mp h;obtain ⟨ta,h1,h⟩:=af.mp h;obtain ⟨tb,h2,rfl⟩:=ab.mp h;exact iH.ok (ih h1) (um ih h2) (td hn _ _)
theorem uw {r:List Expr}{t:TAd}(h:v7 E (a::r)=some t):starEach (a::r) X.env=(false,eval a X.env)::starEach r X.env:=td (ae.mp h).1 _ _
theorem xW:∀ {r:List Expr} {t:TAd},v7 E r=some t->(backTo pos (starEach r X.env)).any (·.1)=false
 | [],_,_=>rfl
 | a::r,t,h=>by
  rw [uw h];obtain ⟨hn,h⟩:=ae.mp h;obtain ⟨ta,h1,h⟩:=af.mp h;obtain ⟨tb,h2,rfl⟩:=ab.mp h;have:=xW h2;unfold backTo at this ⊢;rw [eh,gL,this];rfl
theorem vb {r:List Expr}{t:TAd}(h:v7 E (a::r)=some t):(backTo pos (starEach r X.env)).any (·.1)=false:=by
 obtain ⟨hn,h⟩:=ae.mp h;obtain ⟨ta,h1,h⟩:=af.mp h;obtain ⟨tb,h2,rfl⟩:=ab.mp h;exact xW h2
theorem Fx (C:CtxOk T X)(ih:yJ X E){x:Str}{as:List Expr}{t:TEd}(hg:T.isG x=true)(h:Fy E (v7 E) T x as=some t):PE X (.Call (.Name x p) as [] pos) (LE X.K t):=by
 obtain ⟨g1,g2⟩:=C.isG hg;unfold Fy at h;cases e1:T.G.lookup x with
 | some js =>
  obtain ⟨j,s⟩:=js;rw [e1] at h;obtain ⟨hk,h⟩:=ae.mp h;obtain ⟨k1,k2⟩:=ay.mp hk;obtain ⟨tb,h2,rfl⟩:=ab.mp h;cases as with
  | nil=>cases k2
  | cons a r =>
   obtain ⟨ps,d⟩:=C.fn x j s (tP e1);exact iK.ok (Bj d C.room (um ih h2) (of_decide_eq_true k1) g1 g2 (uw h2) (vb h2))
 | none =>
  rw [e1] at h;dsimp only at h;obtain ⟨⟨k,id,o⟩,e0,h3⟩:=af.mp h;obtain ⟨b1,b2,b3,b4⟩:=J1 C.room C.calm C.bl e0;cases e2:zf T x as with
  | some i =>
   rw [e2] at h3;have h4:some (me i)=some t:=h3;obtain ⟨rfl,y,p2,rfl,e3⟩:=Dq e2;cases h4;exact me.ok g1 C.bl.len (C.var e3) rfl
  | none =>
   rw [e2] at h3;obtain ⟨hne,h5⟩:=gu.mp (show (if as.isEmpty=true then none else (v7 E as).map (dB o.run o.mono))=some t from h3);obtain ⟨tb,h2,rfl⟩:=ab.mp h5;cases as with
   | nil=>exact absurd rfl hne
   | cons a r =>
    cases k with
    | true =>
     obtain ⟨b5,rr,b6,b7⟩:=b4;exact dB.ok b7 (xA b6 g1 b1 b5 (um ih h2) b2 b3 (uw h2) (vb h2))
    | false =>
     obtain ⟨b5,rr,b6,b7⟩:=b4;exact dB.ok b7 (wj b6 g1 b1 b5 (um ih h2) b2 b3 (uw h2) (vb h2))
theorem BS (C:CtxOk T X)(ih:yJ X E){g:Expr}{as:List Expr}{ks:List Keyword}{t:TEd}(h:zK E T pos as ks g=some t):PE X (.Call g as ks pos) (LE X.K t):=by
 unfold zK at h;split at h
 ·obtain ⟨hk,h1⟩:=ae.mp h;clear h;obtain ⟨k0,hg⟩:=ay.mp hk;cases gv.mp k0;exact Fx C ih hg h1
 ·obtain ⟨k3,h1⟩:=ae.mp h;clear h;cases k3;obtain ⟨hk,h2⟩:=ae.mp h1;obtain ⟨k1,k2⟩:=ay.mp hk;obtain ⟨k4,k5⟩:=ay.mp k1;cases gv.mp k4;cases gv.mp k5;obtain ⟨ta,h4,rfl⟩:=ab.mp h2;exact pZ.ok (ih h4) rfl k2
 ·cases h
theorem Bt (C:CtxOk T X)(ih:yJ X E){tg e:Expr}{t:TAd}(h:JF E T tg e=some t):PI X tg e (LI X.K t):=by
 have wk:(E e).map i5=some t->PI X tg e (LI X.K t):=fun h=>by
  obtain ⟨ta,h1,rfl⟩:=ab.mp h;exact i5.ok (ih h1)
 unfold JF at h;split at h
 ·rename_i x p1 a p2;by_cases ex:x = "range"
  ·subst ex;obtain ⟨hn,h⟩:=ae.mp (show (if tH a && T.isG "range" then (E a).map ms else none)=some t from h);obtain ⟨n1,n2⟩:=ay.mp hn;obtain ⟨ta,h1,rfl⟩:=ab.mp h;exact ms.ok (C.isG n2).1 C.bl.range (ih h1) (td n1 _ _)
  ·rw [if_neg ex] at h;by_cases ex:x = "enumerate"
   ·subst ex;cases tg <;> first | (cases h;done) | skip
    obtain ⟨hn,h⟩:=ae.mp (show (if tH a && T.isG "enumerate" then (E a).map jg else none)=some t from h);obtain ⟨n1,n2⟩:=ay.mp hn;obtain ⟨ta,h1,rfl⟩:=ab.mp h;exact jg.ok (C.isG n2).1 C.bl.enumerate (ih h1) (td n1 _ _)
   ·rw [if_neg ex] at h;by_cases ex:x = "reversed"
    ·subst ex;obtain ⟨hn,h⟩:=ae.mp (show (if tH a && T.isG "reversed" then (E a).map m5 else none)=some t from h);obtain ⟨n1,n2⟩:=ay.mp hn;obtain ⟨ta,h1,rfl⟩:=ab.mp h;exact m5.ok (C.isG n2).1 C.bl.reversed (ih h1) (td n1 _ _)
    ·rw [if_neg ex] at h;exact wk h
 ·rename_i x p1 a b p2;by_cases ex:x = "range"
  ·subst ex;obtain ⟨hn,h⟩:=ae.mp (show (if tH a && tH b && T.isG "range" then (E a).bind fun ta=>(E b).map (kH ta) else none)=some t from h);obtain ⟨n1,n2⟩:=ay.mp hn;obtain ⟨n0,n1⟩:=ay.mp n1;obtain ⟨ta,h1,h⟩:=af.mp h;obtain ⟨tb,h2,rfl⟩:=ab.mp h;exact kH.ok (C.isG n2).1 C.bl.range (ih h1) (ih h2) (by rw [td n0,td n1];rfl) (td n1 _ _)
  ·rw [if_neg ex] at h;exact wk h
 ·exact wk h
theorem AM {I:Option TAd}{e tg:Expr}{ifs:List Expr}{sc:Scope}{t:TEd}(C:CtxOk T X)(h:CT I E F T e tg ifs sc=some t)(ih:∀ s2 H2 fp pins A,yJ (vh X sc s2 H2 fp pins A) E)(ihF:∀ s2 H2 fp pins A,LW (vh X sc s2 H2 fp pins A) F) :
  ∃ ti g te tk,I=some ti/\t=iT ti (uq T.N sc) g tk te/\(∀ i∈g.tg,i∈uq T.N sc)/\(∀ s2 H2 fp pins A,PG (vh X sc s2 H2 fp pins A) tg (LG X.K g))/\(∀ s2 H2 fp pins A,PTs (vh X sc s2 H2 fp pins A) ifs (LT X.K tk))/\∀ s2 H2 fp pins A,PE (vh X sc s2 H2 fp pins A) e (LE X.K te):=by
 obtain ⟨ti,h1,h⟩:=af.mp h;obtain ⟨g,h2,h⟩:=af.mp h;obtain ⟨hg,h⟩:=ae.mp h;obtain ⟨te,h3,h⟩:=af.mp h;have hh:∀ i∈g.tg,i∈uq T.N sc:=fun i hi=>by simpa using cB.mp hg i hi
 match ifs,h with
 | [],h =>
  cases h;exact ⟨ti,g,te,i9,h1,rfl,hh,fun _ _ _ _ _=>A9 (C.inner ..) h2,fun _ _ _ _ _=>pts_nil.weak fun σ H Q ⟨f,O,ss,S,q⟩=>q H (Ex.refl S.fl),fun _ _ _ _ _=>ih _ _ _ _ _ h3⟩
 | [k],h =>
  obtain ⟨tk,h4,rfl⟩:=ab.mp h;exact ⟨ti,g,te,tk,h1,rfl,hh,fun _ _ _ _ _=>A9 (C.inner ..) h2,fun _ _ _ _ _=>Ga (ihF _ _ _ _ _ h4),fun _ _ _ _ _=>ih _ _ _ _ _ h3⟩
 | _::_::_,h=>cases h
theorem CI {gs:List Comprehension}{tg it:Expr}{ifs:List Expr}(h:E8 gs=some (tg,it,ifs)):gs=[⟨tg,it,ifs,0⟩]/\tH it=true:=by
 unfold E8 at h;split at h
 ·obtain ⟨hn,h⟩:=ae.mp h;cases h;exact ⟨rfl,hn⟩
 ·cases h
structure TrOk (n:Nat):Prop where
 e:∀ {T:Tc} {X:Cx},CtxOk T X->yJ X (tY n T)
 t:∀ {T:Tc} {X:Cx},CtxOk T X->LW X (z6 n T)
 w:∀ {T:Tc} {X:Cx} {op:BoolOp} {vs:List Expr} {p:Pos} {t:TTd},CtxOk T X->z6 n T (.BoolOp op vs p)=some t->PW X (.BoolOp op vs p) (LT X.K t)
theorem B3 (ih:yJ X E){t:TTd}(hb:Im e=true)(h:(E e).map jZ=some t):PT X e (LT X.K t):=by
 obtain ⟨ta,h1,rfl⟩:=ab.mp h;exact jZ.ok (ih h1) fun w=>FB hb _ w
theorem wF:∀ n,TrOk n
 | 0=>⟨fun _ _ _ h=>(by cases h),fun _ _ _ h=>(by cases h),fun _ h=>(by cases h)⟩
 | n+1=>by
  have ih:=wF n;have hw:∀ {T:Tc} {X:Cx} {op:BoolOp} {vs:List Expr} {p:Pos} {t:TTd},CtxOk T X->z6 (n+1) T (.BoolOp op vs p)=some t->PW X (.BoolOp op vs p) (LT X.K t):=fun C h=>JY (ih.t C) (ih.w C) h;refine ⟨fun {T X} C {e t} h=>?_,fun {T X} C {e t} h=>?_,hw⟩
  ·cases e <;> first | (cases h;done) | skip
   case Name x p =>
    have h:Mo T x=some t:=h;unfold Mo at h;cases hs:T.slot x with
    | some i =>
     rw [hs] at h;cases h;exact iI.ok (C.var hs)
    | none =>
     rw [hs] at h;obtain ⟨hg,h⟩:=ae.mp h;obtain ⟨d,h1,rfl⟩:=ab.mp h;exact K5 C hg h1
   case Constant k j p =>
    obtain ⟨d,h1,rfl⟩:=ab.mp (show (LY k).map dC=some t from h);exact Ix h1
   case BinOp a op b p =>
    obtain ⟨ta,tb,h1,h2,rfl⟩:=wa (show two (tY n T) a b (iL op)=some t from h);exact iL.ok C.room (ih.e C h1) (ih.e C h2)
   case Compare=>exact Hc C (ih.e C) h
   case UnaryOp=>exact Iu (ih.e C) h
   case BoolOp=>exact JZ (ih.e C) h
   case IfExp k a b p =>
    obtain ⟨tk,h0,h⟩:=af.mp (show (z6 n T k).bind (fun tk=>two (tY n T) a b (qJ tk))=some t from h);obtain ⟨ta,tb,h1,h2,rfl⟩:=wa h;exact qJ.ok (ih.t C h0) (ih.e C h1) (ih.e C h2)
   case Tuple es k p =>
    obtain ⟨ta,h1,rfl⟩:=ab.mp (show (v7 (tY n T) es).map iZ=some t from h);exact iZ.ok (um (ih.e C) h1)
   case List es p =>
    obtain ⟨ta,h1,rfl⟩:=ab.mp (show (v7 (tY n T) es).map iY=some t from h);exact iY.ok (um (ih.e C) h1)
   case Subscript=>exact F0 C (ih.e C) h
   case Call g as ks p =>
    exact BS C (ih.e C) h
   case ListComp e gs sc p =>
    obtain ⟨hs,h⟩:=ae.mp (show (if D4 T.sc sc then (E8 gs).bind fun (tg,it,ifs)=>CT (JF (tY n T) T tg it) (tY n { T with sc:=sc }) (z6 n { T with sc:=sc }) T e tg ifs sc else none)=some t from h);obtain ⟨⟨tg,it,ifs⟩,h1,h2⟩:=af.mp h;obtain ⟨rfl,hn⟩:=CI h1;obtain ⟨ti,g,te,tk,q1,rfl,q2,q3,q4,q5⟩:=AM C h2 (fun _ _ _ _ _=>ih.e (C.inner ..)) (fun _ _ _ _ _=>ih.t (C.inner ..));exact iT.ok C.calm (C.compS hs) (Bt C (ih.e C) q1) q3 q4 q5 (fun x=>wn hn _ x) q2
  ·cases e;case Compare=>exact Hb C (ih.e C) h
   case UnaryOp op a p =>
    have h:(if op = .Not then (z6 n T a).map jz else (tY n T (.UnaryOp op a p)).map jZ)=some t:=h;by_cases eo:op = .Not
    ·subst eo;obtain ⟨ta,h1,rfl⟩:=ab.mp (show (z6 n T a).map jz=some t from h);exact jz.ok (ih.t C h1)
    ·rw [if_neg eo] at h;refine B3 (ih.e C) ?_ h;cases op <;> first | rfl | exact absurd rfl eo
   case BoolOp=>exact (hw C h).pt
   case IfExp=>cases h
   all_goals exact B3 (ih.e C) rfl h
end
section
open PySem L2 Dp
variable {K:Frag}{X:Cx}{T:Tc}{pos:Pos}
structure CtxS (T:Tc)(X:Cx):Prop extends CtxOk T X where
 scope:X.env.scope=T.sc
 bk:X.env.blockKind = .function
 xe:X.xe=fun _ _=>False
 fnT:∀ x,X.fn x=true
theorem CtxS.L (C:CtxS T X){x:Str}(h:DL (T.sc.names.lookup x)=true):DH X.env.scope x:=by
 unfold L2.DH;rw [C.scope];cases q:T.sc.names.lookup x with
 | none=>rw [q] at h;cases h
 | some k=>rw [q] at h;cases k <;> first | exact .inl rfl | exact .inr rfl | cases h
theorem sJ.ok {fz:List Nat}{scope:Scope}{hide:List Nat}{it:TAd}{g:TGd}{c:TTd}{e:TEd}{tg iter elt:Expr}{ifs:List Expr}{i:Nat}{y:Str}{py ep:Pos}(hc:X.calm=true)(hN:X.N.Nodup)(hy:X.N[i]? = some y)(hl:DH X.env.scope y)(Sc:CompS X.N X.env.scope scope hide)(hi:PI X tg iter (LI X.K it))
  (hg:∀ s2 H2 fp pins C,PG (vh X scope s2 H2 fp pins C) tg (LG X.K g)) (ht:∀ s2 H2 fp pins C,PTs (vh X scope s2 H2 fp pins C) ifs (LT X.K c)) (he:∀ s2 H2 fp pins C,PE (vh X scope s2 H2 fp pins C) elt (LE X.K e))
  (hs:∀ x,foldedSetIterable iter X.env x=pure x) (hh:∀ i∈g.tg,i∈hide) (hsw:swapsWith (.ListComp elt [⟨tg,iter,ifs,0⟩] scope ep) (some (.Name y py)) pos.line X.env=pure true) (hf:X.fn y=true\/X.env.scope.names.lookup y=some .local) :
  PS X (.Assign [.Name y py] (.ListComp elt [⟨tg,iter,ifs,0⟩] scope ep) pos) (LS X.K (iO fz (gNm i) (iT it hide g c e))) :=
 (Gb (spos:=pos) hc hN hy hl Sc hi hg ht he hs hsw hf).weak fun D σ H ⟨c0,O,ss,R,q⟩=>by
  obtain ⟨O',R⟩:=R.frz (fz:=fz);refine ⟨c0.f,O',_,R.sl,it.mono (fun ds q J H1 e1 D0=>?_) q⟩;refine compD.ok (R.sl.ex e1) hh D0 (compD.mono (fun d q v H' e r=>?_) q);have R2:=R.ex (e1.trans e);exact q O' _ H' (R2.to (R2.sl.set r) Sub.set)
def Md (T:Tc)(x:Str)(px ep:Pos)(sc:Scope):Bool:=(T.sc.names.lookup x == some .local) && (px.line == ep.line) && !(sc.names.any fun (n,k)=>n == x && (k == .local || k == .cell))
theorem DT (C:CtxS T X){e:Expr}{gs:List Comprehension}{x:Str}{px ep:Pos}{sc:Scope}{l:Nat}:swapsWith (.ListComp e gs sc ep) (some (.Name x px)) l X.env=pure (Md T x px ep sc):=by
 unfold swapsWith Md;show (pure (X.env.blockKind == .function && X.env.kindOf x == some .local && px.line == ep.line && !(sc.names.any fun (n,k)=>n == x && (k == .local || k == .cell))):Sem Bool)=_;rw [C.bk];unfold Env.kindOf;rw [C.scope];rfl
def EC (T:Tc)(x y:Str)(px py:Pos)(a b:Expr):Bool:=tH a && tH b && (T.sc.names.lookup x == some .local) && (T.sc.names.lookup y == some .local) && (py.line == px.line) && !(x == y) && !(foldedForSure 8 a && foldedForSure 8 b) && !(constantsAlone 8 a && constantsAlone 8 b)
theorem Ez (C:CtxS T X){x y:Str}{px py pt pt2:Pos}{a b:Expr}{kt k2:Nat}(h:EC T x y px py a b=true):swappedStores [.Tuple [.Name x px,.Name y py] kt pt] (.Tuple [a,b] k2 pt2) X.env=pure (some [x,y]):=by
 unfold EC at h;simp only [bN,dX] at h;obtain ⟨⟨⟨⟨⟨⟨⟨h1,h2⟩,h3⟩,h4⟩,h5⟩,h6⟩,h7⟩,h8⟩:=h;have s1:∀ {e:Expr},tH e=true->(match e with | .Starred .. => true | _=>false)=false:=fun {e} h=>by cases e <;> first | rfl | cases h
 have k1:X.env.kindOf x == some .local:=by unfold Env.kindOf;rw [C.scope];exact h3
 have k2:X.env.kindOf y == some .local:=by unfold Env.kindOf;rw [C.scope];exact h4
 have n1:(y == x)=false:=by
  cases q:y == x with
  | false=>rfl
  | true =>
   have:=eq_of_beq q;subst this;rw [beq_self_eq_true] at h6;cases h6
 have k1':=eq_of_beq k1;have k2':=eq_of_beq k2;have h5':py.line=px.line:=eq_of_beq h5;have ed:([x,y]:List Str).eraseDups=[x,y]:=by
  rw [List.eraseDups_cons];simp [n1];rfl
 unfold swappedStores;have ep:∀ (x:Str) (p:Pos),(Expr.Name x p).pos=p:=fun _ _=>rfl;simp [C.bk,dw,ir,k1',k2',ep,h5',ed];rw [if_neg,if_neg,if_neg]
 ·rintro ⟨q1,q2⟩;rw [q1,q2] at h8;cases h8
 ·rintro ⟨q1,q2⟩;rw [q1,q2] at h7;cases h7
 ·rintro (q | q)
  ·cases a <;> first | (cases h1;done) | cases q
  ·cases b <;> first | (cases h2;done) | cases q
def BR (T:Tc)(x y:Str)(a b:Expr):Bool:=!((T.sc.names.lookup x == some .local) && (T.sc.names.lookup y == some .local)) || (foldedForSure 8 a && foldedForSure 8 b)
theorem DC (C:CtxS T X){x y:Str}{px py pt pt2:Pos}{a b:Expr}{kt k2:Nat}(h:BR T x y a b=true):swappedStores [.Tuple [.Name x px,.Name y py] kt pt] (.Tuple [a,b] k2 pt2) X.env=pure none:=by
 unfold BR at h;rcases ia.mp h with h | h
 ·have h:(X.env.kindOf x == some .local)=false\/(X.env.kindOf y == some .local)=false:=by
   unfold Env.kindOf;rw [C.scope];revert h;cases T.sc.names.lookup x == some .local <;> cases T.sc.names.lookup y == some .local <;> simp
  unfold swappedStores;simp only [dw,ir];rcases h with h | h <;> simp only [h,Bool.false_and,cK,if_false];all_goals (split <;> first | rfl | skip)
  all_goals (split <;> first | rfl | skip)
  all_goals (repeat' split) <;> first | rfl | simp_all
 ·have e:[a,b].all (foldedForSure 8)=true:=by
   show (foldedForSure 8 a && (foldedForSure 8 b && true))=true;rw [Bool.and_true];exact h
  unfold swappedStores;dsimp only;rw [if_pos e];repeat' split
  all_goals rfl
def y8:Expr->Option (Str×Str×Pos×List Expr×Pos)
 | .Call (.Attribute (.Name x _) m ap) as [] cp=>if ap.endLine == cp.line then some (x,m,ap,as,cp) else none
 | _=>none
theorem yp {e:Expr}{x m:Str}{ap cp:Pos}{as:List Expr}(h:y8 e=some (x,m,ap,as,cp)):(∃ p,e = .Call (.Attribute (.Name x p) m ap) as [] cp)/\(ap.endLine == cp.line)=true:=by
 unfold y8 at h;split at h
 ·obtain ⟨hl,h⟩:=ae.mp h;cases h;exact ⟨⟨_,rfl⟩,hl⟩
 ·cases h
def GC (E:FE)(T:Tc)(x:Str)(as:List Expr):Option TEd:=match T.gn.lookup x with
 | some (j,s)=>if decide (j<=T.k) && T.isG x then (v7 E as).map (iK s) else none
 | none=>none
def GB (E:FE)(T:Tc):Expr->Option TEd
 | .List es _=>(v7 E es).map iY
 | .BinOp a .Mult b _=>two E a b (iL .Mult)
 | .Call (.Name x _) [a] [] _=>if x = "list" then (if tH a && T.isG "list" then (E a).map jN else none) else GC E T x [a]
 | .Call (.Name x _) [a,b] [] _=>GC E T x [a,b]
 | _=>none
def HV:Expr->Bool
 | .Tuple .. => true | _=>false
def LJ (n:Nat)(T:Tc)(p:Pos)(i:Nat)(e:Expr):Option TSd:=match y8 e with
 | some (y,m,_,as,_)=>if m = "pop" then (match as with
  | []=>(T.slot y).map (pX i)
  | _=>none) else none
 | none=>if T.own.contains p.line then ((GB (tY n T) T e).map (kY (T.frz p) i)) else (tY n T e).map (iO (T.frz p) (gNm i))
def EB:List Expr->Expr->Option (Str×Pos×Str×Pos×Expr×Expr)
 | [.Name x px,.Name y py],.Tuple [a,b] _ _=>some (x,px,y,py,a,b)
 | _,_=>none
theorem EA {es:List Expr}{e a b:Expr}{x y:Str}{px py:Pos}(h:EB es e=some (x,px,y,py,a,b)):es=[.Name x px,.Name y py]/\∃ k p,e = .Tuple [a,b] k p:=by
 unfold EB at h;split at h
 ·cases h;exact ⟨rfl,_,_,rfl⟩
 ·cases h
def Iv (n:Nat)(T:Tc)(p:Pos)(es:List Expr)(e:Expr):Option TSd:=match EB es e with
 | some (x,px,y,py,a,b)=>if EC T x y px py a b then (T.slot x).bind fun i=>(T.slot y).bind fun j=>(if T.own.contains p.line then (GB (tY n T) T a).bind fun ta=>(tY n T b).map (pY (T.frz p) i j ta) else (tY n T a).bind fun ta=>(tY n T b).map (mt (T.frz p) i j ta)) else if BR T x y a b then (A7 T es).bind fun is=>(tY n T e).map (iO (T.frz p) (gTp is)) else none
 | none=>if HV e || uE e then none else (A7 T es).bind fun is=>(tY n T e).map (iO (T.frz p) (gTp is))
def Lm (n:Nat)(T:Tc)(p:Pos)(e:Expr):Expr->Option TSd
 | .Name x _=>if DL (T.sc.names.lookup x)=true then (T.slot x).bind fun i=>LJ n T p i e else none
 | .Subscript a k _=>(match a with
  | .Name x _=>if tH k && !uE e then (T.slot x).bind fun i=>(tY n T k).bind fun tk=>(tY n T e).map (mf (T.frz p) i tk) else none
  | _=>none)
 | .Tuple es _ _=>Iv n T p es e
 | _=>none
def MA (n:Nat)(T:Tc)(p:Pos)(e:Expr):Option TSd:=match y8 e with
 | some (x,m,_,as,_)=>if m = "append" then (match as with
   | [e]=>(if tH e then (T.slot x).bind fun i=>(tY n T e).map (pW (T.frz p) i) else none)
   | _=>none)
  else if m = "pop" then (if as.isEmpty then (T.slot x).map rS else none)
  else if m = "extend" then (match as with
   | [e]=>if tH e then (T.slot x).bind fun i=>(tY n T e).map (rT (T.frz p) i) else none
   | _=>none)
  else none
 | none=>none
mutual
def LD:Nat->Tc->Stmt->Option TSd
 | 0,_,_=>none
 | n+1,T,st=>match st with
  | .Return o p=>(match o with
   | some e=>(tY n T e).map (iP (T.frz p))
   | none=>some rf)
  | .Pass _=>some iW
  | .Break _=>some rR
  | .Expr e p=>MA n T p e
  | .Assign tgs e p=>(match tgs with
   | [tg]=>Lm n T p e tg
   | _=>none)
  | .AugAssign tg op e p=>(match tg with
   | .Name x _=>if DL (T.sc.names.lookup x)=true then (T.slot x).bind fun i=>(tY n T e).map (nM (T.frz p) i op) else none
   | .Subscript a k _=>(match a with
    | .Name x _=>if tH k then (T.slot x).bind fun i=>(tY n T k).bind fun tk=>(tY n T e).map (mh (T.frz p) i tk op) else none
    | _=>none)
   | _=>none)
  | .If k a b p=>(z6 n T k).bind fun tk=>(B4 n T a).bind fun ta=>(B4 n T b).map fun tb=>dIf (T.frz p) tk ta tb
  | .While k a r _=>(match r with
   | []=>(z6 n T k).bind fun tk=>(B4 n T a).map (jq tk)
   | _=>none)
  | .For tg it a r p=>(match r with
   | []=>if tH it then (JF (tY n T) T tg it).bind fun ti=>(LH T tg).bind fun g=>(B4 n T a).map (jl (T.frz p) ti g) else none
   | _=>none)
  | _=>none
def B4:Nat->Tc->List Stmt->Option TSd
 | 0,_,_=>none
 | n+1,T,sts=>match sts with
  | []=>some iW
  | st::r=>(match r with
   | []=>LD n T st
   | _=>(LD n T st).bind fun t=>(B4 n T r).map (dSq t))
end
theorem Cu (C:CtxOk T X){E:FE}(ih:yJ X E){x:Str}{a:Expr}{as:List Expr}{t:TEd}{p pos:Pos}(h:GC E T x (a::as)=some t):PE X (.Call (.Name x p) (a::as) [] pos) (LF X.K t):=by
 unfold GC at h;cases e1:T.gn.lookup x with
 | none=>rw [e1] at h;cases h
 | some js =>
  obtain ⟨j,s⟩:=js;rw [e1] at h;obtain ⟨hk,h⟩:=ae.mp h;obtain ⟨k1,k2⟩:=ay.mp hk;obtain ⟨tb,h2,rfl⟩:=ab.mp h;obtain ⟨g1,g2⟩:=C.isG k2;obtain ⟨ps,d⟩:=C.gn x j s (tP e1);exact iK.okF (Bj d C.room (um ih h2) (of_decide_eq_true k1) g1 g2 (uw h2) (vb h2))
theorem Ct (C:CtxOk T X){E:FE}(ih:yJ X E){e:Expr}{t:TEd}(h:GB E T e=some t):PE X e (LF X.K t)/\uE e=false:=by
 unfold GB at h;split at h
 ·obtain ⟨ta,h1,rfl⟩:=ab.mp h;exact ⟨iY.okF (um ih h1),rfl⟩
 ·obtain ⟨ta,tb,h1,h2,rfl⟩:=wa h;exact ⟨sO.okF (ih h1) (ih h2),rfl⟩
 ·rename_i x p1 a p2;by_cases ex:x = "list"
  ·rw [if_pos ex] at h;obtain ⟨hn,h4⟩:=ae.mp h;obtain ⟨n1,n2⟩:=ay.mp hn;obtain ⟨ta,h1,rfl⟩:=ab.mp h4;subst ex;exact ⟨jN.okF (C.isG n2).1 C.bl.list (ih h1) (td n1 _ _),rfl⟩
  ·rw [if_neg ex] at h;exact ⟨Cu C ih h,rfl⟩
 ·exact ⟨Cu C ih h,rfl⟩
 ·cases h
theorem uP {e:Expr}(h:uE e=false)(t:Expr)(l:Nat)(env:Env):swapsWithSole [t] e l env=pure false:=wm h (some t) l env
theorem DQ {n:Nat}(C:CtxOk T X){e:Expr}{gs:List Comprehension}{sc:Scope}{p:Pos}{t:TEd}(h:tY n T (.ListComp e gs sc p)=some t):∃ tg it ifs ti g te tk,gs=[⟨tg,it,ifs,0⟩]/\tH it=true/\CompS X.N X.env.scope sc (uq T.N sc)/\PI X tg it (LI X.K ti)/\t=iT ti (uq T.N sc) g tk te/\(∀ i∈g.tg,i∈uq T.N sc)/\(∀ s2 H2 fp pins A,PG (vh X sc s2 H2 fp pins A) tg (LG X.K g))/\(∀ s2 H2 fp pins A,PTs (vh X sc s2 H2 fp pins A) ifs (LT X.K tk))/\∀ s2 H2 fp pins A,PE (vh X sc s2 H2 fp pins A) e (LE X.K te):=by
 cases n with
 | zero=>cases h
 | succ n =>
  have ih:=wF n;obtain ⟨hs,h⟩:=ae.mp (show (if D4 T.sc sc then (E8 gs).bind fun (tg,it,ifs)=>CT (JF (tY n T) T tg it) (tY n { T with sc:=sc }) (z6 n { T with sc:=sc }) T e tg ifs sc else none)=some t from h);obtain ⟨⟨tg,it,ifs⟩,h1,h2⟩:=af.mp h;obtain ⟨rfl,hn⟩:=CI h1;obtain ⟨ti,g,te,tk,q1,q0,q2,q3,q4,q5⟩:=AM C h2 (fun _ _ _ _ _=>ih.e (C.inner ..)) (fun _ _ _ _ _=>ih.t (C.inner ..));exact ⟨tg,it,ifs,ti,g,te,tk,rfl,hn,C.compS hs,Bt C (ih.e C) q1,q0,q2,q3,q4,q5⟩
theorem Jx {n:Nat}(C:CtxS T X){i:Nat}{x:Str}{e:Expr}{t:TSd}{px p:Pos}(hl:DL (T.sc.names.lookup x)=true)(hs:T.slot x=some i)(h:LJ n T p i e=some t):PS X (.Assign [.Name x px] e p) (LS X.K t):=by
 have ih:yJ X (tY n T):=(wF n).e C.toCtxOk;have hf:X.fn x=true\/X.env.scope.names.lookup x=some .local:=.inl (C.fnT x);unfold LJ at h;split at h
 ·rename_i y m ap as cp em;obtain ⟨⟨p1,rfl⟩,hn⟩:=yp em;obtain ⟨rfl,h3⟩:=ae.mp h;match as,h3 with
  | [],h3 =>
   obtain ⟨j,h1,rfl⟩:=ab.mp h3;exact pX.ok C.nd (C.slot hs) (C.L hl) hf (C.var h1) rfl hn rfl
  | _::_,h3=>cases h3
 ·by_cases ho:T.own.contains p.line=true
  ·rw [if_pos ho] at h;obtain ⟨ta,h1,rfl⟩:=ab.mp h;obtain ⟨q1,q2⟩:=Ct C.toCtxOk ih h1;exact kY.ok C.nd (C.slot hs) (C.L hl) q1 (wm q2 _ _ _) hf
  ·rw [if_neg ho] at h;obtain ⟨ta,h1,rfl⟩:=ab.mp h;have gen:uE e=false->PS X (.Assign [.Name x px] e p) (LS X.K (iO (T.frz p) (gNm i) ta)):=fun hc=>sI.ok C.nd (C.slot hs) (C.L hl) (ih h1) (wm hc _ _ _) hf;cases e;case ListComp e gs sc ep hmm =>
    obtain ⟨tg,it,ifs,ti,g,te,tk,rfl,hn,q0,qi,rfl,q2,q3,q4,q5⟩:=DQ C.toCtxOk h1;cases sw:Md T x px ep sc with
    | false=>exact sI.ok C.nd (C.slot hs) (C.L hl) (ih h1) (by rw [DT C,sw]) hf
    | true=>exact sJ.ok C.calm C.nd (C.slot hs) (C.L hl) q0 qi q3 q4 q5 (fun x=>wn hn _ x) q2 (by rw [DT C,sw]) hf
   case SetComp=>cases n <;> cases h1
   case DictComp=>cases n <;> cases h1
   all_goals exact gen rfl
theorem FW {n:Nat}(C:CtxS T X){es:List Expr}{e:Expr}{t:TSd}{p pt:Pos}{kt:Nat}(h:Iv n T p es e=some t):PS X (.Assign [.Tuple es kt pt] e p) (LS X.K t):=by
 have ih:yJ X (tY n T):=(wF n).e C.toCtxOk;unfold Iv at h;split at h
 ·rename_i x px y py a b eo;obtain ⟨rfl,k,p2,rfl⟩:=EA eo;by_cases hp:EC T x y px py a b=true
  rotate_left
  ·rw [if_neg hp] at h;obtain ⟨hc,h⟩:=ae.mp h;obtain ⟨is,h1,h⟩:=af.mp h;obtain ⟨ta,h2,rfl⟩:=ab.mp h;obtain ⟨q1,q2,q3⟩:=wZ C.toCtxOk h1;exact iO.ok (ih h2) (gTp.ok (Bg C.calm q1 q2 q3)) (uP rfl _ _ _) (DC C hc) rfl
  rw [if_pos hp] at h;obtain ⟨i,h1,h⟩:=af.mp h;obtain ⟨j,h2,h⟩:=af.mp h;have hp':=hp;unfold EC at hp';simp only [bN,dX] at hp';obtain ⟨⟨⟨⟨⟨⟨⟨w1,w2⟩,w3⟩,w4⟩,w5⟩,w6⟩,w7⟩,w8⟩:=hp';have ne:i≠j:=by
   rintro rfl;have a1:=C.slot h1;have a2:=C.slot h2;rw [a1] at a2;cases a2;rw [beq_self_eq_true] at w6;cases w6
  by_cases ow:T.own.contains p.line=true
  ·rw [if_pos ow] at h;obtain ⟨ta,h3,h⟩:=af.mp h;obtain ⟨tb,h4,rfl⟩:=ab.mp h;exact (Ep (pos:=p) C.calm C.nd (C.slot h1) (C.slot h2) ne (C.loc _ (eq_of_beq w3)) (C.loc _ (eq_of_beq w4)) (sZ (Ct C.toCtxOk ih h3).1 (sZ (ih h4) pa_nil (td w2 _ _)) (td w1 _ _)) (Ez C hp) rfl).weak fun D σ H q=>pY.weak q
  ·rw [if_neg ow] at h;obtain ⟨ta,h3,h⟩:=af.mp h;obtain ⟨tb,h4,rfl⟩:=ab.mp h;exact (Ep (pos:=p) C.calm C.nd (C.slot h1) (C.slot h2) ne (C.loc _ (eq_of_beq w3)) (C.loc _ (eq_of_beq w4)) (sZ (ih h3) (sZ (ih h4) pa_nil (td w2 _ _)) (td w1 _ _)) (Ez C hp) rfl).weak fun D σ H q=>mt.weak q
 ·obtain ⟨hn,h⟩:=gu.mp h;obtain ⟨is,h1,h⟩:=af.mp h;obtain ⟨ta,h2,rfl⟩:=ab.mp h;obtain ⟨q1,q2,q3⟩:=wZ C.toCtxOk h1;have hn2:HV e=false/\uE e=false:=by simpa using hn
  refine iO.ok (ih h2) (gTp.ok (Bg C.calm q1 q2 q3)) (uP hn2.2 _ _ _) ?_ rfl;have:=hn2.1;cases e <;> first | rfl | cases this
theorem Hh {n:Nat}(C:CtxS T X){tg e:Expr}{t:TSd}{p:Pos}(h:Lm n T p e tg=some t):PS X (.Assign [tg] e p) (LS X.K t):=by
 have ih:yJ X (tY n T):=(wF n).e C.toCtxOk;cases tg <;> first | (cases h;done) | skip
 case Name x px =>
  obtain ⟨hl,h⟩:=ae.mp (show (if DL (T.sc.names.lookup x)=true then (T.slot x).bind fun i=>LJ n T p i e else none)=some t from h);obtain ⟨i,h1,h⟩:=af.mp h;exact Jx C hl h1 h
 case Subscript a k sp =>
  cases a <;> first | (cases h;done) | skip
  rename_i x q;obtain ⟨hn,h⟩:=ae.mp (show (if tH k && !uE e then (T.slot x).bind fun i=>(tY n T k).bind fun tk=>(tY n T e).map (mf (T.frz p) i tk) else none)=some t from h);obtain ⟨n1,n2⟩:=ay.mp hn;obtain ⟨i,h1,h⟩:=af.mp h;obtain ⟨tk,h2,h⟩:=af.mp h;obtain ⟨ta,h3,rfl⟩:=ab.mp h;have hc:uE e=false:=by simpa using n2
  refine mf.ok (C.var h1) (ih h2) (ih h3) (uP hc _ _ _) ?_ rfl (vF (C.var h1) (ih h2) t4 ?_)
  ·cases e <;> rfl
  ·intro v;cases k <;> first | rfl | cases n1
 case Tuple es k pt=>exact FW C h
theorem JL {n:Nat}(C:CtxS T X){e:Expr}{t:TSd}{p:Pos}(h:MA n T p e=some t):PS X (.Expr e p) (LS X.K t):=by
 have ih:yJ X (tY n T):=(wF n).e C.toCtxOk;unfold MA at h;split at h
 ·rename_i x m ap as cp em;obtain ⟨⟨p1,rfl⟩,hl⟩:=yp em;by_cases e1:m = "append"
  ·subst e1;rw [if_pos rfl] at h;match as,h with
   | [e],h =>
    obtain ⟨hn,h⟩:=ae.mp h;obtain ⟨i,h1,h⟩:=af.mp h;obtain ⟨ta,h2,rfl⟩:=ab.mp h;exact pW.ok (C.var h1) rfl (ih h2) (td hn _ _) hl rfl
   | [],h=>cases h
   | _::_::_,h=>cases h
  ·rw [if_neg e1] at h;by_cases e2:m = "pop"
   ·subst e2;rw [if_pos rfl] at h;obtain ⟨ha,h4⟩:=ae.mp h;obtain ⟨i,h1,rfl⟩:=ab.mp h4;cases as with
    | cons=>cases ha
    | nil=>exact rS.ok (C.var h1) rfl hl rfl
   ·rw [if_neg e2] at h;by_cases e5:m = "extend"
    ·subst e5;rw [if_pos rfl] at h;match as,h with
     | [e],h =>
      obtain ⟨hn,h⟩:=ae.mp h;obtain ⟨i,h1,h⟩:=af.mp h;obtain ⟨ta,h2,rfl⟩:=ab.mp h;exact rT.ok (C.var h1) rfl (ih h2) (td hn _ _) hl rfl
     | [],h=>cases h
     | _::_::_,h=>cases h
    rw [if_neg e5] at h;cases h
 ·cases h
theorem A6:∀ n,(∀ {T:Tc} {X:Cx} {st:Stmt} {t:TSd},CtxS T X->LD n T st=some t->PS X st (LS X.K t))/\(∀ {T:Tc} {X:Cx} {sts:List Stmt} {t:TSd},CtxS T X->B4 n T sts=some t->PSs X sts (LS X.K t))
 | 0=>⟨fun _ h=>(by cases h),fun _ h=>(by cases h)⟩
 | n+1=>by
  have ihS:=A6 n;constructor
  ·intro T X st t C h;have C':=C.toCtxOk;have ih:yJ X (tY n T):=(wF n).e C';have it:LW X (z6 n T):=(wF n).t C';have hp:PassesOwn (model X.prog X.w) X.A X.env X.xe:=by
    rw [C.xe];exact PassesOwn.never
   cases st <;> first | (cases h;done) | skip
   case Return o p =>
    cases o with
    | none =>
     cases h;exact rf.ok
    | some e =>
     obtain ⟨ta,h1,rfl⟩:=ab.mp (show (tY n T e).map (iP (T.frz p))=some t from h);exact iP.ok (ih h1)
   case Pass=>cases h;exact iW.pass
   case Break=>cases h;exact rR.ok
   case Expr=>exact JL C h
   case Assign tgs e p =>
    match tgs,h with
    | [tg],h=>exact Hh C h
    | [],h=>cases h
    | _::_::_,h=>cases h
   case AugAssign tg op e p =>
    cases tg <;> first | (cases h;done) | skip
    case Name x px =>
     obtain ⟨hl,h⟩:=ae.mp (show (if DL (T.sc.names.lookup x)=true then (T.slot x).bind fun i=>(tY n T e).map (nM (T.frz p) i op) else none)=some t from h);obtain ⟨i,h1,h⟩:=af.mp h;obtain ⟨ta,h2,rfl⟩:=ab.mp h;exact nM.ok C.room C.nd (C'.slot h1) (C.L hl) (ih h2) (.inl (C.fnT _))
    case Subscript a k sp =>
     cases a <;> first | (cases h;done) | skip
     rename_i x q;obtain ⟨hn,h⟩:=ae.mp (show (if tH k then (T.slot x).bind fun i=>(tY n T k).bind fun tk=>(tY n T e).map (mh (T.frz p) i tk op) else none)=some t from h);obtain ⟨i,h1,h⟩:=af.mp h;obtain ⟨tk,h2,h⟩:=af.mp h;obtain ⟨ta,h3,rfl⟩:=ab.mp h;refine mh.ok C.room (C.var h1) (ih h2) (ih h3) ?_;cases k <;> first | (intros;rfl) | cases hn
   case If k a b p =>
    obtain ⟨tk,h0,h⟩:=af.mp (show (z6 n T k).bind (fun tk=>(B4 n T a).bind fun ta=>(B4 n T b).map fun tb=>dIf (T.frz p) tk ta tb)=some t from h);obtain ⟨ta,h1,h⟩:=af.mp h;obtain ⟨tb,h2,rfl⟩:=ab.mp h;exact dIf.ok (it h0) (ihS.2 C h1) (ihS.2 C h2)
   case While k a r p =>
    cases r with
    | cons=>cases h
    | nil =>
     obtain ⟨tk,h0,h⟩:=af.mp (show (z6 n T k).bind (fun tk=>(B4 n T a).map (jq tk))=some t from h);obtain ⟨ta,h1,rfl⟩:=ab.mp h;exact jq.ok hp (it h0) (ihS.2 C h1)
   case For tg i a r p =>
    cases r with
    | cons=>cases h
    | nil =>
     obtain ⟨hn,h⟩:=ae.mp (show (if tH i then (JF (tY n T) T tg i).bind fun ti=>(LH T tg).bind fun g=>(B4 n T a).map (jl (T.frz p) ti g) else none)=some t from h);obtain ⟨ti,h0,h⟩:=af.mp h;obtain ⟨g,h1,h⟩:=af.mp h;obtain ⟨tb,h2,rfl⟩:=ab.mp h;exact jl.ok hp C.calm (Bt C' ih h0) (A9 C' h1) (ihS.2 C h2) fun x=>wn hn _ x
  ·intro T X sts t C h;match sts,h with
   | [],h =>
    cases h;exact iW.nil
   | [st],h=>exact dSq.one (ihS.1 C h)
   | st::s2::r,h =>
    obtain ⟨ta,h1,h⟩:=af.mp (show (LD n T st).bind (fun t=>(B4 n T (s2::r)).map (dSq t))=some t from h);obtain ⟨tb,h2,rfl⟩:=ab.mp h;exact dSq.ok (ihS.1 C h1) (ihS.2 C h2)
theorem JQ {P:Program}{w:World}{mg:Str->Option Value}{base:Heap}{qual:Str}{st:Stmt}{f:Addr}{N ps:List Str}{k:Nat}{G gn:List (Str×Nat×SpB)}{gc:List (Str×D)}{fz:List (Nat×List Nat)}{own mu:List Nat}{cdv:Value}{A:Around}{outer:List Env}{s0:Shared}{H:Hp}{E:XK}(B:Bl mg)(S:FnScope N ps (sP st))
  (hG:∀ x j s,(x,j,s)∈G->∃ ps,Def P w K mg base x j ps (BY K s.n s.run)) (hgc:∀ x d,(x,d)∈gc->∃ v u,mg x=some u/\RelV v u/\∀ f O H,Rp K f O H d v) (hgn:∀ x j s,(x,j,s)∈gn->∃ ps,Def P w K mg base x j ps (FM K s.n s.run)) (hr:Room k (A.deeper (PyProof.Rows.envOfC qual (sP st) s0.heap.objs.size f cdv))) :
  CtxS ⟨N,sP st,G,gc,k,fz,own,mu,gn⟩ (BK DJ P w K mg base N qual (sP st) f cdv A outer s0 H E).nox:=by
 refine ⟨⟨rfl,S.nd,rfl,hr,fun x h=>?_,fun x h=>h,fun x h=>h,fun x h=>h,hG,hgc,B,fun x h=>⟨h,rfl⟩,hgn⟩,rfl,?_,rfl,fun _=>rfl⟩
 ·have h:K0 ((sP st).names.lookup x)=true:=h;unfold Io;show (sP st).names.lookup x=_\/(sP st).names.lookup x=_\/(sP st).names.lookup x=_;cases q:(sP st).names.lookup x with
  | none=>rw [q] at h;cases h
  | some k=>rw [q] at h;cases k <;> first | exact .inl rfl | exact .inr (.inl rfl) | exact .inr (.inr rfl) | cases h
 ·show (if (sP st).kind.isAnnotationScope then ScopeKind.function else (sP st).kind) = .function;rw [S.kind];rfl
theorem Jv {P:Program}{w:World}{mg:Str->Option Value}{base:Heap}{x qual:Str}{st:Stmt}{f:Addr}{fd:FuncData}{N ps:List Str}{n k:Nat}{t:TSd}{s:SpB}{G gn:List (Str×Nat×SpB)}{gc:List (Str×D)}{fz:List (Nat×List Nat)}{own mu:List Nat}(F:Fun K x qual st f fd)(B:Bl mg)(S:FnScope N ps (sP st))(hn:s.n=ps.length)
  (hG:∀ x j s,(x,j,s)∈G->∃ ps,Def P w K mg base x j ps (BY K s.n s.run)) (hgc:∀ x d,(x,d)∈gc->∃ v u,mg x=some u/\RelV v u/\∀ f O H,Rp K f O H d v) (hgn:∀ x j s,(x,j,s)∈gn->∃ ps,Def P w K mg base x j ps (FM K s.n s.run))
  (ht:B4 n ⟨N,sP st,G,gc,k,fz,own,mu,gn⟩ (t3 st)=some t) (h:Does N.length t s):FnOk P w K mg base DJ (k+1) f fd ps (BY K s.n s.run) :=
 F.ok S (fun vs H Q E q=>q.1.trans hn) (fun cdv A outer s0 H vs Q E hr q=>⟨LS K t,(A6 n).2 (JQ B S hG hgc hgn hr) ht,h.ok q⟩)
end
section
open PySem L2 Dp
variable {P:Program}{w:World}{K:Frag}{mg:Str->Option Value}{base:Heap}
theorem Ju {st:Stmt} {f0:Addr} {fd:FuncData} {N:List Str} {n k:Nat} {t:TSd} {rest:List Stmt} {p1 p2 p3 p4 p5:Pos} {G:List (Str×Nat×SpB)} {gc:List (Str×D)} {fz:List (Nat×List Nat)} {own mu:List Nat} (F:Fun K "law" "law" st f0 fd) (B:Bl mg) (S:FnScope ("_law_script" :: "_law_flow_here" :: N) ["_law_script"] (sP st))
  (g:Def P w K mg base "_law_flow" 1 ["_law_script"] (xo K)) (hG:∀ x j s,(x,j,s)∈G->∃ ps,Def P w K mg base x j ps (BY K s.n s.run)) (hgc:∀ x d,(x,d)∈gc->∃ v u,mg x=some u/\RelV v u/\∀ f O H,Rp K f O H d v)
  (hb:t3 st = .Assign [.Name "_law_flow_here" p1] (.Call (.Name "_law_flow" p2) [.Name "_law_script" p3] [] p4) p5::rest) (hk:1<=k) (hv:(sP st).names.lookup ("_law_script" : Str)=some .local\/(sP st).names.lookup ("_law_script" : Str)=some .cell) (hl:(sP st).names.lookup ("_law_flow_here" : Str)=some .local\/(sP st).names.lookup ("_law_flow_here" : Str)=some .cell) (hg:(sP st).names.lookup ("_law_flow" : Str)=some .globalImplicit)
  (ht:B4 n ⟨"_law_script" :: "_law_flow_here" :: N,sP st,G,gc,k,fz,own,mu,[]⟩ rest=some t) (h:t.run ⟨fun _=>False,fun d=>d = .bl true,fun _=>False,fun _=>False⟩ (.no :: .val .fl::List.replicate N.length .no)) :
  FnOk P w K mg base DJ (k+1) f0 fd ["_law_script"] (B5 K):=by
 refine F.ok S (fun vs H Q E h=>?_) (fun cdv A outer s H vs Q E hr q=>?_)
 ·obtain ⟨a,ns,rfl,_⟩:=h;rfl
 obtain ⟨a,ns,rfl,hS,h63,q⟩:=q;refine ⟨Ki (IB (z8 (xo K) [] E0 (yf (vz 0) FZ)) (yx 1)) (LS K t),?_,?_⟩
 ·rw [hb];refine t5 (we S.nd rfl hl (Bj g hr (sZ (Bh rfl ?_ rfl rfl) pa_nil rfl) hk hg rfl rfl rfl) rfl (.inl rfl)) ?_
  ·rcases hv with z | z
   ·exact .inl z
   ·exact .inr (.inl z)
  refine (A6 n).2 (T:=⟨"_law_script" :: "_law_flow_here" :: N,sP st,G,gc,k,fz,own,mu,[]⟩) ⟨⟨rfl,S.nd,rfl,hr,fun x h=>?_,fun x h=>h,fun x h=>h,fun x h=>h,hG,hgc,B,fun x h=>⟨h,rfl⟩,fun _ _ _ h=>absurd h aP⟩,rfl,?_,rfl,fun _=>rfl⟩ ht
  ·have h:K0 ((sP st).names.lookup x)=true:=h;unfold Io;show (sP st).names.lookup x=_\/(sP st).names.lookup x=_\/(sP st).names.lookup x=_;cases q:(sP st).names.lookup x with
   | none=>rw [q] at h;cases h
   | some k=>rw [q] at h;cases k <;> first | exact .inl rfl | exact .inr (.inl rfl) | exact .inr (.inr rfl) | cases h
  ·show (if (sP st).kind.isAnnotationScope then ScopeKind.function else (sP st).kind) = .function;rw [S.kind];rfl
 ·refine ⟨_,rfl,a,ns,rfl,hS,h63,fun f H1 e1 fl hf=>?_⟩;have ef:(L2.start ("_law_script" :: "_law_flow_here" :: N) [V.ref a]).set 1 (some (V.ref f))=some (.ref a)::some (.ref f)::List.replicate N.length none:=rfl;show LS K t _ ((L2.start ("_law_script" :: "_law_flow_here" :: N) [V.ref a]).set 1 (some (V.ref f))) H1;rw [ef];have gt:∀ {i:Nat} {x:SD},(SD.no::SD.val .fl::List.replicate N.length SD.no)[i]? = some x->x = .no\/(i=1/\x = .val .fl):=fun {i x} h=>by
   match i,h with
   | 0,h=>cases h;exact .inl rfl
   | 1,h=>cases h;exact .inr ⟨rfl,rfl⟩
   | i+2,h=>exact .inl (eE (aM (show (List.replicate N.length SD.no)[i]? = some x from h)))
  refine ⟨⟨f,[f],H1,[f]⟩,[f],SD.no::SD.val .fl::List.replicate N.length SD.no,⟨⟨fl,av.mpr rfl,fun b hb=>?_,fun l r e z=>?_,by simp,fun i d hd=>?_,fun i l hd=>?_⟩,fun _ h=>h,⟨fun _ _ h _ _=>h,fun l r h=>⟨r,h⟩⟩,fun b h=>.inl h,fun i l b hd=>?_⟩,?_⟩
  ·rw [av.mp hb];exact fl.lst
  ·have z:=av.mp z;subst z;obtain ⟨l0,ns0,i,c,a0,b,h1,h2,_⟩:=fl;rw [h1] at e;cases e;rw [h1] at h2;cases ns0 <;> cases h2
  ·rcases gt hd with e | ⟨rfl,e⟩
   ·cases e
   ·cases e;exact ⟨_,rfl,rfl⟩
  ·rcases gt hd with e | ⟨_,e⟩ <;> cases e
  ·rcases gt hd with e | ⟨_,e⟩ <;> cases e
  ·refine t.mono ?_ h;refine ⟨fun s z=>z.elim,fun d z v H' R=>?_,fun s z=>z.elim,fun s z=>z.elim⟩;subst z;cases (show v=_ from R.rp);exact q H'
end
section
open PySem L2 Dp
variable {P:Program}{w:World}{K:Frag}{mg:Str->Option Value}{base:Heap}
theorem Nt:∀ (x:Str) (j:Nat) (s:SpB),(x,j,s)∈([]:List (Str×Nat×SpB))->∃ ps,Def P w K mg base x j ps (BY K s.n s.run):=fun _ _ _ h=>absurd h aP
theorem uc {y:Str}{i:Nat}{r:SpB}{ps:List Str}{G:List (Str×Nat×SpB)}(g:Def P w K mg base y i ps (BY K r.n r.run))(h:∀ (x:Str) (j:Nat) (s:SpB),(x,j,s)∈G->∃ ps,Def P w K mg base x j ps (BY K s.n s.run)):∀ (x:Str) (j:Nat) (s:SpB),(x,j,s)∈(y,i,r)::G->∃ ps,Def P w K mg base x j ps (BY K s.n s.run):=fun x j s e=>by
 rcases au.mp e with e | e
 ·cases e;exact ⟨ps,g⟩
 ·exact h x j s e
theorem ud:∀ (x:Str) (d:D),(x,d)∈([]:List (Str×D))->∃ v u,mg x=some u/\RelV v u/\∀ f O H,Rp K f O H d v:=fun _ _ h=>absurd h aP
end
section
open PySem L2 Dp
variable {P:Program}{w:World}{K:Frag}{mg:Str->Option Value}{base:Heap}
structure Sl (K:Frag)(f:Addr)(x:Str)(st:Stmt):Prop where
 a:PySem.W.nsIn K mainGlobals x=some (some (.ref f))
 ex:∃ fd,Fun K x x st f fd
theorem sl {f:Addr}{x:Str}{st:Stmt}{oc:Value}{od an:Option Addr}{osl:Array (Option Value)}{kV doc pm cdv ct:Value}(a:PySem.W.nsIn K mainGlobals x=some (some (.ref f)))(l:K.lookup f=some ⟨oc,od,.func (PySem.W.fnOf x x (u9 st) (t3 st) (sP st) .none kV doc pm an cdv ct),osl⟩)(c:PySem.W.codeIn K cdv x=true)(k:PySem.W.keepIn K (.ref f)=true):Sl K f x st:=⟨a,_,JK l c k⟩
abbrev Mg (K:Frag)(mg:Str->Option Value):Prop:=∀ (x:Str) (f:Addr),PySem.W.nsIn K mainGlobals x=some (some (.ref f))->mg x=some (.ref f)
def MV (N ps:List Str)(sc:Scope):Bool:=decide (N.Nodup) && decide (N.take ps.length=ps) && (ps.all fun x=>decide (sc.names.lookup x=some .local) || decide (sc.names.lookup x=some .cell)) && sc.names.all fun y=>decide (y.2 ≠ .free)
theorem sc {N ps:List Str}{sc:Scope}(h:MV N ps sc=true)(h1:sc.kind = .function)(h2:sc.isCoroutine=false)(h3:sc.isGenerator=false):FnScope N ps sc:=by
 unfold MV at h;obtain ⟨h,d⟩:=ay.mp h;obtain ⟨h,c⟩:=ay.mp h;obtain ⟨a,b⟩:=ay.mp h;refine ⟨h1,h2,h3,of_decide_eq_true a,of_decide_eq_true b,fun x hx=>?_,fun y hy=>of_decide_eq_true (cB.mp d y hy)⟩;rcases ia.mp (cB.mp c x hx) with z | z
 ·exact .inl (of_decide_eq_true z)
 ·exact .inr (of_decide_eq_true z)
abbrev o0:List (Nat×List Nat)×List Nat×List Nat:=([],[],[])
abbrev BA (x:Str)(st:Stmt)(kV doc pm:Value)(an:Option Addr)(cdv ct:Value)(us:List Value):=bindArgs (PySem.W.fnOf x x (u9 st) (t3 st) (sP st) .none kV doc pm an cdv ct) ⟨us,[]⟩
theorem Nu:∀ (x:Str) (j:Nat) (s:SpB),(x,j,s)∈([]:List (Str×Nat×SpB))->∃ ps,Def P w K mg base x j ps (FM K s.n s.run):=fun _ _ _ h=>absurd h aP
theorem ue {x:Str}{st:Stmt}{f:Addr}{N ps:List Str}(k:Nat)(H:List (Nat×List Nat)×List Nat×List Nat){t:TSd}{s:SpB}{G:List (Str×Nat×SpB)}{gc:List (Str×D)}(S:Sl K f x st)(W:Mg K mg)(B:Bl mg)(C:FnScope N ps (sP st))(hn:s.n=ps.length)
  (hG:∀ x j s,(x,j,s)∈G->∃ ps,Def P w K mg base x j ps (BY K s.n s.run)) (hgc:∀ x d,(x,d)∈gc->∃ v u,mg x=some u/\RelV v u/\∀ f O H,Rp K f O H d v)
  (hb:∀ (kV doc pm:Value) (an:Option Addr) (cdv ct:Value) (us:List Value),us.length=ps.length->BA x st kV doc pm an cdv ct us=pure (ps.zip us))
  (ht:B4 40 ⟨N,sP st,G,gc,k,H.1,H.2.1,H.2.2,[]⟩ (t3 st)=some t) (h:Does N.length t s):Def P w K mg base x (k+1) ps (BY K s.n s.run):=by
 obtain ⟨a,fd,F⟩:=S;exact .of F (W _ _ a) (F.binds hb) (Jv (n:=40) (fz:=H.1) (own:=H.2.1) (mu:=H.2.2) F B C hn hG hgc Nu ht h)
theorem u0 {us:List Value}{n:Nat}(h:us.length=n+1):∃ a r,us=a::r/\r.length=n:=by
 cases us with
 | nil=>exact absurd h (Nat.succ_ne_zero n).symm
 | cons a r=>exact ⟨a,r,rfl,Nat.succ.inj h⟩
theorem u1 {us:List Value}(h:us.length=1):∃ a,us=[a]:=by
 obtain ⟨a,r,rfl,h1⟩:=u0 (n:=0) h;exact ⟨a,by rw [cU.mp h1]⟩
theorem u2 {us:List Value}(h:us.length=2):∃ a b,us=[a,b]:=by
 obtain ⟨a,r,rfl,h1⟩:=u0 (n:=1) h;obtain ⟨b,rfl⟩:=u1 h1;exact ⟨a,b,rfl⟩
theorem u3 {us:List Value}(h:us.length=3):∃ a b c,us=[a,b,c]:=by
 obtain ⟨a,r,rfl,h1⟩:=u0 (n:=2) h;obtain ⟨b,c,rfl⟩:=u2 h1;exact ⟨a,b,c,rfl⟩
theorem b1 {x:Str}{st:Stmt}{p:Str}(h:∀ (kV doc pm:Value) (an:Option Addr) (cdv ct u:Value),BA x st kV doc pm an cdv ct [u]=pure [(p,u)]):∀ (kV doc pm:Value) (an:Option Addr) (cdv ct:Value) (us:List Value),us.length=[p].length->BA x st kV doc pm an cdv ct us=pure ([p].zip us):=fun _ _ _ _ _ _ us hl=>by
 obtain ⟨_,rfl⟩:=u1 hl;exact h ..
theorem b2 {x:Str}{st:Stmt}{p q:Str}(h:∀ (kV doc pm:Value) (an:Option Addr) (cdv ct u v:Value),BA x st kV doc pm an cdv ct [u,v]=pure [(p,u),(q,v)]):∀ (kV doc pm:Value) (an:Option Addr) (cdv ct:Value) (us:List Value),us.length=[p,q].length->BA x st kV doc pm an cdv ct us=pure ([p,q].zip us):=fun _ _ _ _ _ _ us hl=>by
 obtain ⟨_,_,rfl⟩:=u2 hl;exact h ..
theorem b3 {x:Str}{st:Stmt}{p q r:Str}(h:∀ (kV doc pm:Value) (an:Option Addr) (cdv ct u v z:Value),BA x st kV doc pm an cdv ct [u,v,z]=pure [(p,u),(q,v),(r,z)]):∀ (kV doc pm:Value) (an:Option Addr) (cdv ct:Value) (us:List Value),us.length=[p,q,r].length->BA x st kV doc pm an cdv ct us=pure ([p,q,r].zip us):=fun _ _ _ _ _ _ us hl=>by
 obtain ⟨_,_,_,rfl⟩:=u3 hl;exact h ..
end
end Ds
namespace Qp
open L2 Cv Hv Pc
def er (f:Nat->Rat)(x:Rat):Nat->Rat
 | 0=>0
 | n+1=>er f x n+f n*x^n
theorem JM {P:List Int}{B:Int}{f:Nat->Rat}(h:∀ k,q P B k=f k)(x:Rat):∀ n,er f x n=ei (fn P) x n / (B:Rat)
 | 0=>by unfold er ei;grind
 | n+1=>by
  rw [er,ei,JM h x n,← h n];show _+(((P.getD n 0:Int):Rat) / (B:Rat))*_=(_+((P.getD n 0:Int):Rat)*_) / _;grind
end Qp
namespace Ap
open L2 Cv Hv Pc Qp
theorem CA (ts:List Int):∀ n,n<=ts.length->(∀ j,n<=j->ts.getD j 0=0)->∃ m,m<=ts.length/\(∀ j,m<=j->ts.getD j 0=0)/\(m=0\/ts.getD (m-1) 0≠0)
 | 0,_,h=>⟨0,aC _,h,.inl rfl⟩
 | n+1,l,h=>by
  by_cases c:ts.getD n 0=0
  ·refine CA ts n (by omega) fun j hj=>?_;rcases cC hj with e | e
   ·rw [← e];exact c
   ·exact h j e
  ·exact ⟨n+1,l,h,.inr c⟩
theorem has {F:Nat->Int}{n:Nat}{c:Int}(hc:0<c)(hF:∀ k,n<=k->F k=0):∃ R C,Po.Fm R C/\∀ k,R.getD k 0*c=F k*C:=by
 have e:∀ k,((List.range n).map F).getD k 0=F k:=fun k=>by
  rw [ac,aO];rcases ao k n with z | z
  ·rw [hV z];rfl
  ·rw [br (by rw [fU];exact z)];exact (hF k z).symm
 obtain ⟨m,h1,h2,h3⟩:=CA ((List.range n).map F) n (by rw [aa,fU];exact am _) fun j hj=>by rw [e];exact hF j hj
 obtain ⟨f,w⟩:=Po.form hc h1 h2 h3;exact ⟨_,_,f,fun k=>by rw [w k,e]⟩
def Pf (f:Rat->Rat):Prop:=∃ R C,Po.Fm R C/\∀ x,E R C x=f x
theorem Pf.of {P:List Int}{B:Int}(f:Po.Fm P B):Pf (E P B):=⟨P,B,f,fun _=>rfl⟩
theorem Pf.add {f g:Rat->Rat}(hf:Pf f)(hg:Pf g):Pf fun x=>f x+g x:=by
 obtain ⟨P1,B1,f1,e1⟩:=hf;obtain ⟨P2,B2,f2,e2⟩:=hg;obtain ⟨R,C,fR,w⟩:=has (F:=fun k=>P1.getD k 0*B2+P2.getD k 0*B1) (n:=P1.length+P2.length) (az f1.pos f2.pos) fun k hk=>by
  have a:P1.getD k 0=0:=sT (by omega);have b:P2.getD k 0=0:=sT (by omega);rw [a,b];simp
 exact ⟨R,C,fR,fun x=>by rw [AU f1.pos f2.pos fR.pos w,e1,e2]⟩
theorem Pf.mul {f g:Rat->Rat}(hf:Pf f)(hg:Pf g):Pf fun x=>f x*g x:=by
 obtain ⟨P1,B1,f1,e1⟩:=hf;obtain ⟨P2,B2,f2,e2⟩:=hg;obtain ⟨R,C,fR,w⟩:=has (F:=cv (fn P1) (fn P2)) (n:=P1.length+P2.length) (az f1.pos f2.pos) fun k hk=>tX (a:=P1.length) (b:=P2.length) (fun j h=>sT h) (fun j h=>sT h) (by omega);exact ⟨R,C,fR,fun x=>by rw [xk f1.pos f2.pos fR w,e1,e2]⟩
theorem Pf.const (r:Rat):Pf fun _=>r:=by
 obtain ⟨t,u,hu,rfl⟩:=tZ r;obtain ⟨R,C,fR,w⟩:=has (F:=fun k=>[t].getD k 0) (n:=1) hu fun k hk=>by
  obtain ⟨j,rfl⟩:∃ j,k=j+1:=⟨k-1,by omega⟩;simp
 exact ⟨R,C,fR,fun x=>xl fR hu w x⟩
theorem Pf.sub {f g:Rat->Rat}(hf:Pf f)(hg:Pf g):Pf fun x=>f x-g x:=by
 obtain ⟨R,C,f,e⟩:=hf.add ((Pf.const (-1)).mul hg);exact ⟨R,C,f,fun x=>by rw [e];grind⟩
theorem Mr {P1 P2 R:List Int}{B1 B2 C:Int}(f1:Po.Fm P1 B1)(f2:Po.Fm P2 B2)(fR:Po.Fm R C)(n1:P1≠[])(n2:P2≠[])(h:∀ x,E R C x=E P1 B1 x*E P2 B2 x):P1.length+P2.length=R.length+1:=by
 have p:=az f1.pos f2.pos;obtain ⟨S,D,fS,w⟩:=has (F:=cv (fn P1) (fn P2)) (n:=P1.length+P2.length) p fun k hk=>tX (a:=P1.length) (b:=P2.length) (fun j h=>sT h) (fun j h=>sT h) (by omega);obtain ⟨rfl,rfl⟩:=tS fR fS fun x=>by rw [h,xk f1.pos f2.pos fS w]
 have l1:0<P1.length:=du.mpr n1;have l2:0<P2.length:=du.mpr n2;have t1:P1.getD (P1.length-1) 0≠0:=f1.last.resolve_left n1;have t2:P2.getD (P2.length-1) 0≠0:=f2.last.resolve_left n2;have top:=BL (f:=fn P1) (g:=fn P2) (a:=P1.length-1) (b:=P2.length-1) (fun j hj=>sT (by omega)) (fun j hj=>sT (by omega));have e:=w (P1.length-1+(P2.length-1));rw [top] at e;have ne:R.getD (P1.length-1+(P2.length-1)) 0≠0:=fun z=>by
  rw [z,aL] at e;exact bT (bT t1 t2) (aA fR.pos) e.symm
 have up:R.length<=P1.length-1+(P2.length-1)+1:=tQ fR p w fun k hk=>tX (a:=P1.length) (b:=P2.length) (fun j h=>sT h) (fun j h=>sT h) (by omega);have dn:P1.length-1+(P2.length-1)<R.length:=by
  rcases ao (P1.length-1+(P2.length-1)) R.length with z | z
  ·exact z
  ·exact absurd (sT (P:=R) z) ne
 omega
abbrev Pl:=List Int×Int
def Ed (y x:Rat):List Pl->Rat
 | []=>0
 | p::ps=>E p.1 p.2 x+y*Ed y x ps
theorem Ed.pf {h:Rat->Rat}(hh:Pf h):∀ {ps:List Pl},(∀ p∈ps,Po.Fm p.1 p.2)->Pf fun x=>Ed (h x) x ps
 | [],_=>Pf.const 0
 | p::ps,f=>(Pf.of (f p ar)).add (hh.mul (Ed.pf hh fun q hq=>f q (aw _ hq)))
theorem v9 (B:Int)(x:Rat):E [] B x=0:=by
 show (0:Rat) / _=0;grind
theorem Ed.uniq {G:List Int}{U:Int}{s:Nat}(fG:Po.Fm G U)(lG:G.length=s+1):∀ {ps qs:List Pl},ps.length=qs.length->(∀ p∈ps,Po.Fm p.1 p.2/\p.1.length<=s)->(∀ p∈qs,Po.Fm p.1 p.2/\p.1.length<=s)->(∀ x,Ed (E G U x) x ps=Ed (E G U x) x qs)->ps=qs
 | [],[],_,_,_,_=>rfl
 | p::ps,q::qs,l,hp,hq,h=>by
  have hp':∀ r∈ps,Po.Fm r.1 r.2/\r.1.length<=s:=fun r hr=>hp r (aw _ hr);have hq':∀ r∈qs,Po.Fm r.1 r.2/\r.1.length<=s:=fun r hr=>hq r (aw _ hr);obtain ⟨fp,lp⟩:=hp p ar;obtain ⟨fq,lq⟩:=hq q ar;obtain ⟨W,w,fW,eW⟩:=(Ed.pf (Pf.of fG) fun r hr=>(hp' r hr).1).sub (Ed.pf (Pf.of fG) fun r hr=>(hq' r hr).1)
  -- the rests are the same
  obtain ⟨D,d,fD,wD⟩:=has (F:=fun k=>q.1.getD k 0*p.2+p.1.getD k 0*(-1)*q.2) (n:=s) (az fq.pos fp.pos) fun k hk=>by
   have a:p.1.getD k 0=0:=sT (by omega);have b:q.1.getD k 0=0:=sT (by omega);rw [a,b];simp
  have eD:∀ x,E D d x=E q.1 q.2 x-E p.1 p.2 x:=fun x=>by
   have fm:∀ k,(p.1.map fun z=>z*(-1)).getD k 0=p.1.getD k 0*(-1):=fun k=>by
    rw [ac,ac,aO];cases p.1[k]? <;> simp
   have e1:=AU (P1:=q.1) (P2:=p.1.map fun z=>z*(-1)) (R:=D) (C:=d) fq.pos fp.pos fD.pos (fun k=>by rw [fm];exact wD k) x;have e2:E (p.1.map fun z=>z*(-1)) p.2 x = -E p.1 p.2 x:=by
    have:∀ n,ei (fn (p.1.map fun z=>z*(-1))) x n=ei (fn p.1) x n*((-1:Int):Rat):=fun n=>by
     rw [← uV];congr 1;funext k;exact fm k
    unfold E;rw [this,aa];show _*(-1:Rat) / _=_;grind
   rw [e1,e2];grind
  have lD:D.length<=s:=tQ fD (az fq.pos fp.pos) wD fun k hk=>by
   have a:p.1.getD k 0=0:=sT (by omega);have b:q.1.getD k 0=0:=sT (by omega);rw [a,b];simp
  have key:∀ x,E D d x=E G U x*E W w x:=fun x=>by
   have a:E p.1 p.2 x+E G U x*Ed (E G U x) x ps=E q.1 q.2 x+E G U x*Ed (E G U x) x qs:=h x;rw [eD,eW];grind
  have W0:W=[]:=Classical.byContradiction fun nW=>by
   have:=Mr fG fW fD (by intro z;rw [z] at lG;simp at lG) nW key;have:0<W.length:=du.mpr nW;omega
  have t:∀ x,Ed (E G U x) x ps=Ed (E G U x) x qs:=fun x=>by
   have a:=eW x;rw [W0,v9] at a;grind
  have e:=Ed.uniq fG lG (by simpa using l) hp' hq' t;have c:∀ x,E p.1 p.2 x=E q.1 q.2 x:=fun x=>by
   have a:E p.1 p.2 x+E G U x*Ed (E G U x) x ps=E q.1 q.2 x+E G U x*Ed (E G U x) x qs:=h x;rw [t x] at a;grind
  obtain ⟨y1,y2⟩:=tS fp fq c;rw [e,show p=q from Prod.ext y1 y2]
end Ap
namespace Ca
open Cv
theorem IZ {g g':Nat->Int}{k s:Nat}(hk:0<k)(g0:g 0=1)(g0':g' 0=1)(h:∀ j,j<s->pw g k j=pw g' k j):∀ j,j<s->g j=g' j:=by
 have go:∀ n,∀ j,j<n->j<s->g j=g' j:=by
  intro n;induction n with
  | zero=>intro j hj;omega
  | succ n ih =>
   intro j hj js;rcases ao j n with z | z
   ·exact ih j z js
   ·have e:j=n:=by omega
    subst e;cases j with
    | zero=>rw [g0,g0']
    | succ j =>
     have p:=(Bb (g:=g) (g':=g') (s:=j) g0 (fun i hi=>(ih i (by omega) (by omega)).symm) k).2;rw [h (j+1) js] at p;have:(k:Int)*(g' (j+1)-g (j+1))=0:=by omega
     rcases cy.mp this with w | w <;> omega
 exact fun j hj=>go s j hj hj
theorem Cand.uniq {P:Nat->Int}{k s:Nat}{R R':List Int}{C C':Int}(hk:0<k)(hP:P (k*s)≠0)(f:Po.Fm R C)(f':Po.Fm R' C')(l:R.length=s+1)(l':R'.length=s+1)(h:Cand P k s (fun i=>R.getD i 0) C)(h':Cand P k s (fun i=>R'.getD i 0) C'):R=R'/\C=C':=by
 obtain ⟨c,g,c0,g0,h1,h2,h3⟩:=h;obtain ⟨c',g',c0',g0',h1',h2',h3'⟩:=h';have e:∀ j,j<s->g j*c'^j=g' j*c^j:=by
  refine IZ (g:=fun i=>g i*c'^i) (g':=fun i=>g' i*c^i) hk ?_ ?_ fun j hj=>?_
  ·show g 0*c'^0=1;rw [g0];simp
  ·show g' 0*c^0=1;rw [g0'];simp
  ·rw [yS,yS];refine gM hP ?_;have a:=h1 j hj;have b:=h1' j hj
   calc P (k*s)*(pw g k j*c'^j)=(P (k*s)*pw g k j)*c'^j:=by grind
    _=P (k*s-j)*c'^j*c^j:=by rw [← a];grind
    _=(P (k*s)*pw g' k j)*c^j:=by rw [← b]
    _=P (k*s)*(pw g' k j*c^j):=by grind
 refine Po.uniq f f' fun i=>?_;rcases ao s i with z | z
 ·have a:R.getD i 0=0:=sT (by omega);have b:R'.getD i 0=0:=sT (by omega);rw [a,b];simp
 by_cases c1:i=0
 ·subst c1;have h3:R.getD 0 0=0:=h3;have h3':R'.getD 0 0=0:=h3';rw [h3,h3'];simp
 have a:R.getD (s-(s-i)) 0*c^(s-i)=g (s-i)*C:=h2 (s-i) (by omega);have b:R'.getD (s-(s-i)) 0*c'^(s-i)=g' (s-i)*C':=h2' (s-i) (by omega);rw [show s-(s-i)=i by omega] at a b;have x:=e (s-i) (by omega);have p1:c^(s-i)≠0:=cH (aA c0);have p2:c'^(s-i)≠0:=cH (aA c0');refine aJ (bT p1 p2) ?_;generalize c^(s-i)=y at *;generalize c'^(s-i)=y' at *;generalize g (s-i)=u at *;generalize g' (s-i)=u' at *
 calc R.getD i 0*C'*(y*y')=(R.getD i 0*y)*y'*C':=by grind
  _=(u*y')*C*C':=by rw [a];grind
  _=(u'*C')*y*C:=by rw [x];grind
  _=R'.getD i 0*C*(y*y'):=by rw [← b];grind
end Ca
namespace Ap
open L2 Cv Hv Pc Qp
theorem Ed.pad (y x:Rat):∀ (ps:List Pl) (n:Nat),Ed y x (ps++List.replicate n ([],1))=Ed y x ps
 | [],0=>rfl
 | [],n+1=>by
  have:=Ed.pad y x [] n;rw [bB];show E [] 1 x+y*Ed y x (List.replicate n ([],1))=0;have e:Ed y x (List.replicate n ([],1))=0:=this;rw [e,v9];grind
 | p::ps,n=>by
  show _+y*Ed y x (ps++List.replicate n ([],1))=_+y*Ed y x ps;rw [Ed.pad y x ps n]
theorem xD:Po.Fm ([]:List Int) 1:=⟨by decide,.inl rfl,by decide⟩
theorem Ed.uniq2 {G:List Int}{U:Int}{s:Nat}(fG:Po.Fm G U)(lG:G.length=s+1){ps qs:List Pl}(hp:∀ p∈ps,Po.Fm p.1 p.2/\p.1.length<=s)(hq:∀ p∈qs,Po.Fm p.1 p.2/\p.1.length<=s)(h:∀ x,Ed (E G U x) x ps=Ed (E G U x) x qs)(t:Nat):ps.getD t ([],1)=qs.getD t ([],1):=by
 have rep:∀ (n:Nat) (p:Pl),p∈List.replicate n (([],1):Pl)->Po.Fm p.1 p.2/\p.1.length<=s:=fun n p hp=>by
  rw [(List.mem_replicate.mp hp).2];exact ⟨xD,aC _⟩
 have e:=Ed.uniq fG lG (ps:=ps++List.replicate qs.length ([],1)) (qs:=qs++List.replicate ps.length ([],1)) (by simp;omega) (fun p h=>by
  rcases cu.mp h with z | z
  ·exact hp p z
  ·exact rep _ p z) (fun p h=>by
  rcases cu.mp h with z | z
  ·exact hq p z
  ·exact rep _ p z) (fun x=>by rw [Ed.pad,Ed.pad,h])
 have g:∀ (l:List Pl) (n:Nat),(l++List.replicate n (([],1):Pl)).getD t ([],1)=l.getD t ([],1):=fun l n=>by
  rw [ac,ac];rcases ao t l.length with z | z
  ·rw [bx z]
  ·rw [bq z,br z,eU];split <;> rfl
 have:=congrArg (fun l:List Pl=>l.getD t ([],1)) e;rwa [g,g] at this
end Ap
namespace Ap
open L2 Cv Hv Pc Qp
def Pl' (n:Nat)(f:Rat->Rat):Prop:=∃ R C,Po.Fm R C/\(∀ x,E R C x=f x)/\R.length<=n
theorem Pl'.of {P:List Int}{B:Int}(f:Po.Fm P B):Pl' P.length (E P B):=⟨P,B,f,fun _=>rfl,am _⟩
theorem Pl'.mono {n m:Nat}{f:Rat->Rat}(h:Pl' n f)(l:n<=m):Pl' m f:=by
 obtain ⟨R,C,a,b,c⟩:=h;exact ⟨R,C,a,b,by omega⟩
theorem Pl'.congr {n:Nat}{f g:Rat->Rat}(h:Pl' n f)(e:∀ x,f x=g x):Pl' n g:=by
 obtain ⟨R,C,a,b,c⟩:=h;exact ⟨R,C,a,fun x=>by rw [b,e],c⟩
theorem Pl'.add {n:Nat}{f g:Rat->Rat}(hf:Pl' n f)(hg:Pl' n g):Pl' n fun x=>f x+g x:=by
 obtain ⟨P1,B1,f1,e1,l1⟩:=hf;obtain ⟨P2,B2,f2,e2,l2⟩:=hg;have z:∀ k,n<=k->P1.getD k 0*B2+P2.getD k 0*B1=0:=fun k hk=>by
  have a:P1.getD k 0=0:=sT (by omega);have b:P2.getD k 0=0:=sT (by omega);rw [a,b];simp
 obtain ⟨R,C,fR,w⟩:=has (F:=fun k=>P1.getD k 0*B2+P2.getD k 0*B1) (n:=n) (az f1.pos f2.pos) z;exact ⟨R,C,fR,fun x=>by rw [AU f1.pos f2.pos fR.pos w,e1,e2],tQ fR (az f1.pos f2.pos) w z⟩
theorem Pl'.mul {n m:Nat}{f g:Rat->Rat}(hf:Pl' n f)(hg:Pl' (m+1) g):Pl' (n+m) fun x=>f x*g x:=by
 obtain ⟨P1,B1,f1,e1,l1⟩:=hf;obtain ⟨P2,B2,f2,e2,l2⟩:=hg;have z:∀ k,n+m<=k->cv (fn P1) (fn P2) k=0:=fun k hk=>tX (a:=n) (b:=m+1) (fun j h=>sT (by omega)) (fun j h=>sT (by omega)) (by omega);obtain ⟨R,C,fR,w⟩:=has (F:=cv (fn P1) (fn P2)) (n:=n+m) (az f1.pos f2.pos) z;exact ⟨R,C,fR,fun x=>by rw [xk f1.pos f2.pos fR w,e1,e2],tQ fR (az f1.pos f2.pos) w z⟩
theorem Pl'.const (r:Rat):Pl' 1 fun _=>r:=by
 obtain ⟨t,u,hu,rfl⟩:=tZ r;have z:∀ k,1<=k->([t]:List Int).getD k 0=0:=fun k hk=>by
  obtain ⟨j,rfl⟩:∃ j,k=j+1:=⟨k-1,by omega⟩;simp
 obtain ⟨R,C,fR,w⟩:=has (F:=fun k=>[t].getD k 0) (n:=1) hu z;exact ⟨R,C,fR,fun x=>xl fR hu w x,tQ fR hu w z⟩
theorem Pl'.smul {n:Nat}{f:Rat->Rat}(r:Rat)(hf:Pl' n f):Pl' n fun x=>r*f x:=(hf.mul (m:=0) (Pl'.const r)).congr fun x=>Rat.mul_comm _ _
theorem Pl'.x:Pl' 2 fun x=>x:=⟨X,1,⟨by decide,.inr (by decide),by decide⟩,Hl,am _⟩
theorem Pl'.pow {s:Nat}{f:Rat->Rat}(hf:Pl' (s+1) f):∀ k:Nat,Pl' (s*k+1) fun x=>f x^k
 | 0=>(Pl'.const 1).congr fun x=>by rw [bC]
 | k+1=>((Pl'.pow hf k).mul hf).congr (fun x=>by rw [aY]) |>.mono (by rw [bJ];omega)
theorem Pl'.comp {P:List Int}{B:Int}{s:Nat}{g:Rat->Rat}(hg:Pl' (s+1) g):Pl' (s*(P.length-1)+1) fun x=>E P B (g x):=by
 have go:∀ n,Pl' (s*(n-1)+1) fun x=>er (q P B) (g x) n:=by
  intro n;induction n with
  | zero=>exact (Pl'.const 0).mono (by omega)
  | succ n ih =>
   have a:Pl' (s*n+1) fun x=>q P B n*g x^n:=(hg.pow n).smul _;exact ((ih.mono (hJ (ak _ (by omega)) 1)).add a).congr fun x=>rfl
 refine (go P.length).congr fun x=>?_;rw [JM (fun _=>rfl)];rfl
theorem IX {A D:List Int}{a d:Int}(fA:Po.Fm A a)(fD:Po.Fm D d)(h:∀ x,E A a x=E D d x)(i:Nat):q A a i=q D d i:=by
 obtain ⟨rfl,rfl⟩:=tS fA fD h;rfl
theorem uI {A H D:List Int}{a c d:Int}{u:Rat}(fA:Po.Fm A a)(fH:Po.Fm H c)(fD:Po.Fm D d)(h:∀ x,E A a x=u*E H c x+E D d x)(i:Nat):q A a i=u*q H c i+q D d i:=by
 obtain ⟨t,v,hv,rfl⟩:=tZ u;have p1:=az fH.pos hv;have z1:∀ k,H.length<=k->H.getD k 0*t=0:=fun k hk=>by
  have:H.getD k 0=0:=sT hk;rw [this];simp
 obtain ⟨S,e,fS,w⟩:=has (F:=fun k=>H.getD k 0*t) (n:=H.length) p1 z1;have eS:∀ x,E S e x=(t:Rat) / (v:Rat)*E H c x:=fun x=>by
  rw [wA (N:=S.length+H.length) fS.pos (aA p1) w (by omega),uV,yb (P:=H) (N:=S.length+H.length) (by omega),aB];have n1:=sQ fH.pos;have n2:=sQ hv;show ei (fn H) x _*_ / _=_;generalize ei (fn H) x (S.length+H.length)=y;grind
 have qS:q S e i=(t:Rat) / (v:Rat)*q H c i:=by
  rw [Ak (f:=fun k=>H.getD k 0*t) fS.pos (aA p1) w i,aB,aB];have n1:=sQ fH.pos;have n2:=sQ hv;unfold q;grind
 have p2:=az fS.pos fD.pos;obtain ⟨V,b,fV,w2⟩:=has (F:=fun k=>S.getD k 0*d+D.getD k 0*e) (n:=S.length+D.length) p2 fun k hk=>by
  have x:S.getD k 0=0:=sT (by omega);have y:D.getD k 0=0:=sT (by omega);rw [x,y];simp
 rw [IX fA fV (fun x=>by rw [h,AU fS.pos fD.pos fV.pos w2,eS]) i,KJ fS.pos fD.pos fV.pos w2,qS]
end Ap
namespace Ca
open L2 Cv Hv Pc Qp
theorem Be {G:List Int}{U:Int}(fG:Po.Fm G U)(k:Nat):∃ H C,Po.Fm H C/\(∀ x,E H C x=E G U x^k)/\∀ i,q H C i=((pw (fn G) k i:Int):Rat) / ((U^k:Int):Rat):=by
 induction k with
 | zero =>
  refine ⟨[1],1,⟨by decide,.inr (by decide),by decide⟩,fun x=>?_,fun i=>?_⟩
  ·rw [bC];unfold E;show (0+((1:Int):Rat)*x^0) / ((1:Int):Rat)=1;rw [bC];show (0+(1:Rat)*1) / 1=1;grind
  ·rw [aT];unfold q;congr 1;cases i with
   | zero=>rfl
   | succ i=>rfl
 | succ k ih =>
  obtain ⟨H,C,fH,eH,qH⟩:=ih;have p:=az fH.pos fG.pos;obtain ⟨S,D,fS,w⟩:=Ap.has (F:=cv (fn H) (fn G)) (n:=H.length+G.length) p fun j hj=>tX (a:=H.length) (b:=G.length) (fun i h=>sT h) (fun i h=>sT h) (by omega);refine ⟨S,D,fS,fun x=>by rw [xk fH.pos fG.pos fS w,eH,aY],fun i=>?_⟩;have pU:(0:Int)<U^k:=bS fG.pos;have hk:∀ j,fn H j*U^k=pw (fn G) k j*C:=fun j=>(tR (aA fH.pos) (aA pU)).mp (qH j);have e:cv (fn H) (fn G) i*U^k=pw (fn G) (k+1) i*C:=by
   show _=cv (pw (fn G) k) (fn G) i*C;rw [← uW,← uW];exact tD hk fun _=>rfl
  rw [Ak (f:=fun k=>cv (fn H) (fn G) k) fS.pos (aA p) w i];refine (tR (aA p) (aA (bS fG.pos))).mpr ?_;rw [aI]
  calc cv (fn H) (fn G) i*(U^k*U)=(cv (fn H) (fn G) i*U^k)*U:=by grind
   _=pw (fn G) (k+1) i*(C*U):=by rw [e];grind
end Ca
namespace Ca
open L2 Cv Hv Pc Qp
def Sem (P:List Int)(B:Int)(k s:Nat)(G:List Int)(U:Int):Prop:=∃ r:Rat->Rat,Ap.Pl' (k*s-s+1) r/\∀ x,E P B x=q P B (k*s)*E G U x^k+r x
theorem Hy {G g:Nat->Int}{c U:Int}{k s j:Nat}(h:∀ i,i<s->G (s-i)*c^i=g i*U)(hj:j<s):pw (rv s G) k j*c^j=pw g k j*U^k:=by
 rw [← yS,← Eg];refine HD (n:=j) (fun i hi=>?_) k j (am _);show rv s G i*c^i=g i*U;rw [← h i (by omega)];unfold rv;rw [if_pos (by omega)]
theorem Cand.sem {P G:List Int}{B U:Int}{k s:Nat}(fP:Po.Fm P B)(lP:P.length=k*s+1)(fG:Po.Fm G U)(lG:G.length=s+1)(k1:1<=k)(s1:1<=s)(h:Cand (fun i=>P.getD i 0) k s (fun i=>G.getD i 0) U):Sem P B k s G U:=by
 obtain ⟨c,g,c0,g0,h1,h2,h3⟩:=h;obtain ⟨H,C,fH,eH,qH⟩:=Be fG k;have ks:s<=k*s:=aQ _ k1;obtain ⟨R,D,fR,eR⟩:=(Ap.Pf.of fP).add ((Ap.Pf.const (-q P B (k*s))).mul (Ap.Pf.of fH));have eR:∀ x,E R D x=E P B x + -q P B (k*s)*E H C x:=eR;have qR:∀ i,q R D i = -q P B (k*s)*q H C i+q P B i:=Ap.uI fR fH fP fun x=>by rw [eR];grind
 have z:∀ i,k*s-s+1<=i->q R D i=0:=fun i hi=>by
  rw [qR,qH];rcases ao (k*s) i with w | w
  ·rw [yR (fun j hj=>sT (by omega)) k i w,tU (P:=P) (k:=i) (by omega)];show _*((0:Rat) / _)+0=0;grind
  ·obtain ⟨j,hj,rfl⟩:∃ j,j<s/\i=k*s-j:=⟨k*s-i,by omega,by omega⟩;rw [Eh (fun j hj=>sT (by omega)) k j (by omega)];have a:=Hy (G:=fn G) (k:=k) h2 hj;have b:P.getD (k*s-j) 0*c^j=P.getD (k*s) 0*pw g k j:=h1 j hj;have cj:c^j≠0:=cH (aA c0);have e:P.getD (k*s-j) 0*U^k=P.getD (k*s) 0*pw (rv s (fn G)) k j:=by
    refine aJ cj ?_
    calc P.getD (k*s-j) 0*U^k*c^j=(P.getD (k*s-j) 0*c^j)*U^k:=by grind
     _=P.getD (k*s) 0*(pw g k j*U^k):=by rw [b];grind
     _=P.getD (k*s) 0*pw (rv s (fn G)) k j*c^j:=by rw [← a];grind
   have e2:=congrArg (fun z:Int=>(z:Rat)) e;simp only [aB] at e2;have n1:=sQ fP.pos;have n2:=sQ (show 0<U^k from bS fG.pos);unfold q;generalize ((pw (rv s (fn G)) k j:Int):Rat)=y at *;generalize ((P.getD (k*s) 0:Int):Rat)=p at *;generalize ((P.getD (k*s-j) 0:Int):Rat)=p' at *;generalize ((U^k:Int):Rat)=u at *;have:p'=p*y / u:=by grind
   rw [this];grind
 refine ⟨E R D,⟨R,D,fR,fun _=>rfl,?_⟩,fun x=>by rw [eR,eH];grind⟩;rcases ao (k*s-s+1) R.length with w | w
 ·exact absurd (z (R.length-1) (by omega)) (t9 fR (by intro e;rw [e] at w;simp at w))
 ·exact w
theorem Sem.cand {P G:List Int}{B U:Int}{k s:Nat}(fP:Po.Fm P B)(fG:Po.Fm G U)(lG:G.length=s+1)(k1:1<=k)(s1:1<=s)(mon:G.getD s 0=U)(G0:G.getD 0 0=0)(h:Sem P B k s G U):Cand (fun i=>P.getD i 0) k s (fun i=>G.getD i 0) U:=by
 obtain ⟨r,⟨R,D,fR,eR,lR⟩,e⟩:=h;obtain ⟨H,C,fH,eH,qH⟩:=Be fG k;have ks:s<=k*s:=aQ _ k1;have qq:=Ap.uI (u:=q P B (k*s)) fP fH fR fun x=>by rw [e,eH,eR]
 have hg:∀ i,i<s->fn G (s-i)*U^i=(if i=0 then 1 else G.getD (s-i) 0*U^(i-1))*U:=fun i hi=>by
  cases i with
  | zero =>
   rw [if_pos rfl,bZ,aT];show G.getD s 0*1=1*U;rw [mon];omega
  | succ i =>
   rw [if_neg (by omega),bK,aI,bY];rfl
 refine ⟨U,fun i=>if i=0 then 1 else G.getD (s-i) 0*U^(i-1),fG.pos,rfl,fun j hj=>?_,hg,G0⟩;have a:=Hy (k:=k) hg hj;have b:=qq (k*s-j);rw [qH,Eh (fun j hj=>sT (by omega)) k j (by omega),tU (P:=R) (by omega)] at b;have pU:(0:Int)<U^k:=bS fG.pos;have e2:P.getD (k*s-j) 0*U^k=P.getD (k*s) 0*pw (rv s (fn G)) k j:=by
  have n1:=sQ fP.pos;have n2:=sQ pU;unfold q at b;have:((P.getD (k*s-j) 0*U^k:Int):Rat)=((P.getD (k*s) 0*pw (rv s (fn G)) k j:Int):Rat):=by
   rw [aB,aB];generalize ((pw (rv s (fn G)) k j:Int):Rat)=y at *;generalize ((P.getD (k*s) 0:Int):Rat)=p at *;generalize ((P.getD (k*s-j) 0:Int):Rat)=p' at *;generalize ((U^k:Int):Rat)=u at *;have:p'=p*(y / u):=by grind
   rw [this];grind
  exact de.mp this
 refine aJ (aA pU) ?_
 calc P.getD (k*s-j) 0*U^j*U^k=(P.getD (k*s-j) 0*U^k)*U^j:=by grind
  _=P.getD (k*s) 0*(pw (rv s (fn G)) k j*U^j):=by rw [e2];grind
  _=_:=by rw [a];grind
end Ca
namespace Ap
open L2 Cv Hv Pc Qp
theorem EW {p:Pl}(f:Po.Fm p.1 p.2){a:Rat}(b:Rat)(a0:a≠0):∃ r:Pl,Po.Fm r.1 r.2/\(∀ x,E r.1 r.2 x=a*E p.1 p.2 x+b)/\(2<=r.1.length↔2<=p.1.length)/\r.1.length<=max 1 p.1.length:=by
 have l0:Pl' (max 1 p.1.length) fun x=>a*E p.1 p.2 x+b:=(((Pl'.of f).mono (Nat.le_max_right _ _)).smul a).add ((Pl'.const b).mono (Nat.le_max_left _ _));obtain ⟨R,C,fR,eR,lR⟩:=l0;refine ⟨(R,C),fR,eR,⟨fun h=>?_,fun h=>?_⟩,lR⟩
 ·have h:2<=R.length:=h;omega
 ·show 2<=R.length;obtain ⟨S,D,fS,eS,lS⟩:=Pl'.const b;have qq:=uI (u:=a) fR f fS (fun x=>by rw [eR,eS]) (p.1.length-1);rw [tU (P:=S) (k:=p.1.length-1) (by omega)] at qq;have ql:=t9 f (by intro e;rw [e] at h;simp at h);rcases ao (p.1.length-1) R.length with w | w
  ·omega
  ·rw [tU (P:=R) w] at qq;have:a*q p.1 p.2 (p.1.length-1)=0:=by grind
   rcases cw.mp this with z | z
   ·exact absurd z a0
   ·exact absurd z ql
theorem Ed.same {y x:Rat}:∀ {ps qs:List Pl},(∀ t,ps.getD t ([],1)=qs.getD t ([],1))->Ed y x ps=Ed y x qs
 | [],[],_=>rfl
 | [],q::qs,h=>by
  have a:=h 0;have b:=Ed.same (ps:=[]) (qs:=qs) (y:=y) (x:=x) fun t=>by have:=h (t+1);rw [cI] at this;exact this
  have a:(([],1):Pl)=q:=a;show 0=E q.1 q.2 x+y*Ed y x qs;rw [← a,← b];show (0:Rat)=E [] 1 x+y*0;rw [v9];grind
 | p::ps,[],h=>by
  have a:=h 0;have b:=Ed.same (ps:=ps) (qs:=[]) (y:=y) (x:=x) fun t=>by have:=h (t+1);rw [cI] at this;exact this
  have a:p=(([],1):Pl):=a;show E p.1 p.2 x+y*Ed y x ps=0;rw [a,b];show E [] 1 x+y*0=(0:Rat);rw [v9];grind
 | p::ps,q::qs,h=>by
  have a:p=q:=h 0;have b:=Ed.same (ps:=ps) (qs:=qs) (y:=y) (x:=x) fun t=>by have:=h (t+1);rw [cI,cI] at this;exact this
  show E p.1 p.2 x+y*Ed y x ps=E q.1 q.2 x+y*Ed y x qs;rw [a,b]
end Ap
namespace Ap
open L2 Cv Hv Pc Qp
theorem GL {R:List Int}{C:Int}{m:Nat}(f:Po.Fm R C)(l:R.length<=m+1)(z:q R C m=0):R.length<=m:=by
 rcases ao m R.length with y | y
 ·have:=t9 f (by rintro rfl;simp at y);rw [show R.length-1=m by omega] at this;exact absurd z this
 ·exact y
theorem BZ (n:Nat):Pl' n fun _=>0:=⟨[],1,xD,fun x=>v9 1 x,aC _⟩
end Ap
namespace Ap
open L2 Cv Hv Pc Qp
theorem EQ (r:Rat)(k:Nat):∃ R C,Po.Fm R C/\∀ i,q R C i=if i=k then r else 0:=by
 obtain ⟨t,u,hu,rfl⟩:=tZ r;obtain ⟨R,C,f,h⟩:=has (F:=fun i=>if i=k then t else 0) (n:=k+1) (c:=u) hu (fun i hi=>if_neg (by omega));refine ⟨R,C,f,fun i=>?_⟩;rw [Ak f.pos (aA hu) h i];by_cases y:i=k
 ·rw [if_pos y,if_pos y]
 ·rw [if_neg y,if_neg y];show (0:Rat) / _=0;grind
theorem Ib (f:Nat->Rat):∀ n:Nat,∃ R C,Po.Fm R C/\∀ i,q R C i=if i<n then f i else 0
 | 0=>⟨[],1,xD,fun i=>by rw [tU (aC _),if_neg (cO _)]⟩
 | n+1=>by
  obtain ⟨R,C,fR,h⟩:=Ib f n;obtain ⟨M,c,fM,g⟩:=EQ (f n) n;obtain ⟨S,d,fS,eS⟩:=(Pf.of fR).add (Pf.of fM);refine ⟨S,d,fS,fun i=>?_⟩;rw [uI (u:=1) fS fR fM (fun x=>by rw [eS x];grind) i,h,g];by_cases y:i<n
  ·rw [if_pos y,if_neg (by omega),if_pos (by omega)];grind
  ·rw [if_neg y];by_cases z:i=n
   ·rw [if_pos z,if_pos (by omega),z];grind
   ·rw [if_neg z,if_neg (by omega)];grind
end Ap
namespace Dt
variable {a b:Rw}{P:List Rw}{cs:List Nat}
def rs:Nat->(Nat->Rat)->Rat
 | 0,_=>0
 | n+1,f=>rs n f+f n
variable {R A Q:List Rb}{col:Nat}
end Dt
namespace Dp
open PySem L2
def pD (P:List Int)(B:Int):D:=.tup [.tup (P.map .int),.int B]
def fD (t b:Int):D:=.tup [.int t,.int b]
theorem ur:2<=sizeLine:=by rw [sizeLine_eq];decide
theorem Ba:1<=sizeLine:=by rw [sizeLine_eq];decide
theorem vf {n:Nat}(h:n<=16777216):n<=sizeLine:=by rw [sizeLine_eq];exact h
theorem Nr {c:Bool}{A B:Prop}(h1:c=true->A)(h2:c=false->B):if c=true then A else B:=by
 cases c
 ·exact h2 rfl
 ·exact h1 rfl
theorem xJ {p:Prop}[Decidable p]{A B:Prop}(h1:p->A)(h2:¬ p->B):if decide p=true then A else B:=by
 by_cases c:p
 ·rw [if_pos (decide_eq_true c)];exact h1 c
 ·rw [if_neg (by simpa using c)];exact h2 c
theorem LK {p:Prop}[Decidable p]{A B:Prop}(h1:¬ p->A)(h2:p->B):if (!decide p)=true then A else B:=by
 by_cases c:p
 ·rw [if_neg (by simpa using c)];exact h2 c
 ·rw [if_pos (by simpa using c)];exact h1 c
theorem tL {α:Type}{fs:List α}{i:Nat}{f d:α}(h:fs[i]? = some f):fs.getD i d=f:=by
 rw [ac,h];rfl
theorem sS {α:Type}{fs:List α}{i:Nat}{d:α}(h:fs.length<=i):fs.getD i d=d:=by
 rw [ac,br h];rfl
theorem wp {ts:List Int}{i:Nat}{x:D}(h:(ts.map D.int)[i]? = some x):i<ts.length/\x = .int (ts.getD i 0):=by
 rw [aO] at h;obtain ⟨z,hz,rfl⟩:=ab.mp h;rw [tL hz];exact ⟨(aj.mp hz).1,rfl⟩
theorem tI {ts:List Int}{i:Nat}(h:i<ts.length):(ts.map D.int)[i]? = some (.int (ts.getD i 0)):=by
 rw [aO,ac,aq h];rfl
theorem tW {ts:List Int}{i:Nat}(h:i<ts.length):ts.take (i+1)=ts.take i++[ts.getD i 0]:=by
 rw [List.take_succ_eq_append_getElem h,ac,aq h];rfl
theorem CH (b:Nat)(ts:List Int)(t:Int):Po.gl b (ts++[t])=Nat.gcd (Po.gl b ts) t.natAbs:=by
 unfold Po.gl;rw [iy];rfl
theorem Hg {α:Type}(xs:List α)(x:α):xZ (xs++[x]) (-1)=some x:=by
 unfold xZ AX;rw [if_neg (by omega),if_pos (by rw [aD];simp;omega)];show (xs++[x])[(-1+((xs++[x]).length:Int)).toNat]? = _;rw [aD,bq (by simp;omega)];have:(-1+((xs.length+[x].length:Nat):Int)).toNat-xs.length=0:=by simp;omega
 rw [this];rfl
theorem ul {l:List D}{n:Nat}{d:D}{Q:D->Prop}(h:l[n]? = some d)(q:Q d):itD l (n:Int) Q:=by
 unfold itD;rw [va h];exact q
theorem uD {l:List D}{i:Int}{d:D}{Q:D->Prop}(h:xZ l i=some d)(q:Q d):itD l i Q:=by
 unfold itD;rw [h];exact q
def mI {α:Type}(F:α->Int)(ts:List α):Nat->List D->Prop:=fun i ys=>ys=((ts.take i).map F).map D.int
theorem mI.nil {α:Type}{F:α->Int}{ts:List α}:mI F ts 0 []:=rfl
theorem mI.snoc {α:Type}{F:α->Int}{ts:List α}{i:Nat}{ys:List D}{t:α}{z:Int}(h:mI F ts i ys)(ht:ts[i]? = some t)(hz:z=F t):mI F ts (i+1) (ys++[.int z]):=by
 unfold mI at h ⊢;rw [h,hz,fJ,ht,bD,bD];rfl
theorem mI.all {α:Type}{F:α->Int}{ts:List α}{n:Nat}{ys:List D}(h:mI F ts n ys)(hn:n=ts.length):ys=(ts.map F).map D.int:=by
 unfold mI at h;rw [h,hn,bM]
theorem u7 {ts:List Int}{i:Nat}{x:D}(h:(ts.map D.int)[i]? = some x):∃ z,ts[i]? = some z/\x = .int z:=by
 rw [aO] at h;obtain ⟨z,hz,rfl⟩:=ab.mp h;exact ⟨z,hz,rfl⟩
def oR:TSd:=(dSq (jq (iQ (iR .NotEq (iI 1) (dC (.int 0))))
 (mt [] 0 1 (iI 1) (iL .Mod (iI 0) (iI 1))))
 (iP [] (dB bAbs bAbs.mono (iH (iI 0) iJ))))
def jA:SpB:=.of 2 (α:=Int×Int) (fun x ds=>ds=[.int x.1,.int x.2]) (fun x d=>d = .int (Fr.cp x.1 x.2))
theorem uG (x:Int):(if x<0 then -x else x)=((x.natAbs:Nat):Int):=by split <;> omega
theorem mw:Does 2 oR jA:=by
 rintro ds Q hn ⟨⟨a,b⟩,rfl,q⟩;refine ⟨fun s=>∃ a' b':Int,s=[.val (.int a'),.val (.int b')]/\Int.gcd a' b'=Int.gcd a b,fun s=>match s with | [_,.val (.int b')]=>b'.natAbs | _=>0,⟨a,b,rfl,rfl⟩,?_⟩;rintro _ ⟨a',b',rfl,hg⟩;refine LK (p:=b'=0) (fun c=>?_) (fun c=>?_)
 ·exact ⟨c,⟨b',a'.fmod b',rfl,by rw [Fr.E9];exact hg⟩,Fr.CK a' b' c⟩
 ·subst c;refine q _ ?_;show D.int (if a'<0 then -a' else a') = .int (Fr.cp a b);unfold Fr.cp;rw [uG,← hg,Int.gcd_zero_right]
def nN:TSd:=(dSq (mt [] 0 1 (dB bAbs bAbs.mono (iH (iI 0) iJ)) (dB bAbs bAbs.mono (iH (iI 1) iJ)))
 (dSq (jq (jZ (iI 1))
 (mt [] 0 1 (iI 1) (iL .Mod (iI 0) (iI 1))))
 (iP [] (iI 0))))
def ja:SpB:=.of 2 (α:=Int×Int) (fun x ds=>ds=[.int x.1,.int x.2]) (fun x d=>d = .int (Fr.cp x.1 x.2))
theorem kZ:Does 2 nN ja:=by
 rintro ds Q hn ⟨⟨a,b⟩,rfl,q⟩;show (dSq (jq _ _) _).run _ [.val (.int (if a<0 then -a else a)),.val (.int (if b<0 then -b else b))];rw [uG,uG];refine ⟨fun s=>∃ a' b':Nat,s=[.val (.int a'),.val (.int b')]/\Nat.gcd a' b'=Int.gcd a b,fun s=>match s with | [_,.val (.int b')]=>b'.natAbs | _=>0,⟨a.natAbs,b.natAbs,rfl,rfl⟩,?_⟩;rintro _ ⟨a',b',rfl,hg⟩;refine Nr (c:=((b':Int) != 0)) (fun c=>?_) (fun c=>?_)
 ·have c':b'≠0:=by
   intro z;subst z;simp at c
  refine ⟨by omega,⟨b',a'%b',?_,by rw [gS,← Nat.gcd_rec,gS];exact hg⟩,?_⟩
  ·show [SD.val (.int b'),.val (.int ((a':Int).fmod b'))]=_;rw [dh _ (by omega)];rfl
  ·show ((a':Int).fmod b').natAbs<(b':Int).natAbs;exact Fr.CK _ _ (by omega)
 ·have c':b'=0:=by
   have:((b':Int)=0):=by simpa using c
   omega
  subst c';refine q _ ?_;show D.int a' = .int (Fr.cp a b);unfold Fr.cp;rw [← hg,Nat.gcd_zero_right]
def m6:TSd:=(dSq (iO [] (gNm 2) (iK jA (iH (iI 0) (iH (iI 1) iJ))))
 (dSq (dIf [] (iQ (iR .Lt (iI 1) (dC (.int 0))))
 (iO [] (gNm 2) (iL .Sub (dC (.int 0)) (iI 2)))
 iW)
 (iP [] (iZ (iH (iL .FloorDiv (iI 0) (iI 2)) (iH (iL .FloorDiv (iI 1) (iI 2)) iJ))))))
def iV:SpB:=.of 2 (α:=Int×Int) (fun x ds=>ds=[.int x.1,.int x.2]/\x.2≠0/\Lt2 9000000 x.2) (fun x d=>d=fD (Fr.top x.1 x.2) (Fr.bot x.1 x.2))
theorem kI:Does 3 m6 iV:=by
 rintro ds Q hn ⟨⟨a,b⟩,⟨rfl,h0,hl⟩,q⟩;refine ⟨rfl,(a,b),rfl,?_⟩;rintro _ rfl;have fin:∀ p:Int,p=Fr.part a b->uZ a p/\uZ b p/\2<=sizeLine/\Q (.tup [.int (a.fdiv p),.int (b.fdiv p)]):=by
  rintro p rfl;have c:∀ x,uZ x (Fr.part a b):=fun x=>⟨Fr.Cj h0,9000000,hl.le (Fr.Ck h0),by decide⟩;exact ⟨c _,c _,ur,q _ rfl⟩
 refine xJ (p:=b<0) (fun c=>?_) (fun c=>?_)
 ·exact fin _ (by unfold Fr.part;rw [if_pos c];simp)
 ·exact fin _ (by unfold Fr.part;rw [if_neg c])
theorem AG {ts:List Int}{k:Nat}(h:k<ts.length):(((ts.take (k+1)).map D.int)).dropLast=(ts.take k).map D.int:=by
 rw [tW h,bD];exact List.dropLast_concat
theorem dSq.cut {t u:TSd}{E:EndsD}{ss:SS}(R:SS->Prop)(h1:t.run (E.to R) ss)(h2:∀ s,R s->u.run E s):(dSq t u).run E ss:=t.mono (E:=E.to R) (E':=E.to (u.run E)) ⟨h2,fun _ z=>z,fun _ z=>z,fun _ z=>z⟩ h1
def oS:TSd:=(iP [0] (iZ (iH (dB bTuple bTuple.mono (iH (iT (i5 (iI 0)) [3] (gNm 3) i9 (iL .FloorDiv (iI 3) (iI 2))) iJ)) (iH (iL .FloorDiv (iI 1) (iI 2)) iJ))))
def oU:TSd:=dSq (jl [0] (i5 (iI 0)) (gNm 3)
 (iO [] (gNm 2) (iK jA (iH (iI 2) (iH (iI 3) iJ)))))
 oS
def oV:TSd:=dSq (iO [] (gNm 2) (iI 1))
 oU
def kJ:TSd:=dSq (jq (kr (iQ (iR .Gt (me 0) (dC (.int 0)))) (iQ (iR .Eq (oQ 0 (mr (dC (.int 1)))) (dC (.int 0)))))
 (rS 0))
 oV
def qL:TSd:=dSq (kY [0] 0 (jN (iI 0)))
 kJ
def iS:SpB:=.of 2 (α:=List Int×Int) (fun x ds=>(ds=[.lst (x.1.map .int),.int x.2]\/ds=[.tup (x.1.map .int),.int x.2])/\0<x.2/\Lt2 9000000 x.2/\x.1.length<=1000)
 (fun x d=>∃ P B,d=pD P B/\Po.Fm P B/\(∀ k,P.getD k 0*x.2=x.1.getD k 0*B)/\P.length<=x.1.length)
theorem nP:Does 4 qL iS:=by
 rintro ds Q hn ⟨⟨ts,b⟩,⟨hd,hb,hl,hz⟩,q⟩;dsimp only at hd hb hl hz q;have sl:(1000:Nat)<=sizeLine:=by rw [sizeLine_eq];decide
 suffices h:kJ.run (tf Q) [.own (ts.map .int),.val (.int b),.no,.no] by
  rcases hd with rfl | rfl
  ·exact h
  ·exact h
 refine dSq.cut (fun s=>∃ m:Nat,s=[.own ((ts.take m).map .int),.val (.int b),.no,.no]/\m<=ts.length/\(∀ j,m<=j->ts.getD j 0=0)/\(m=0\/ts.getD (m-1) 0≠0)) ?_ ?_
 rotate_left
 ·rintro _ ⟨m,rfl,hm,h0,hlast⟩;obtain ⟨fm,wr⟩:=Po.form hb hm h0 hlast;have bn:((b.natAbs:Nat):Int)=b:=by omega
  refine ⟨fun i s=>∃ o,s=[.val (.lst ((ts.take m).map .int)),.val (.int b),.val (.int ((Po.gl b.natAbs ((ts.take m).take i):Nat):Int)),o],⟨.no,?_⟩,?_,?_⟩
  ·show [SD.val _,.val (.int b),.val (.int b),.no]=[SD.val _,.val (.int b),.val (.int ((b.natAbs:Nat):Int)),.no];rw [bn]
  ·rintro i d s hd ⟨o,rfl⟩;obtain ⟨hi,rfl⟩:=wp hd;refine ⟨rfl,(_,_),rfl,?_⟩;rintro _ rfl;refine ⟨.val (.int ((ts.take m).getD i 0)),?_⟩;rw [tW hi,CH];rfl
  ·rintro s ⟨o,rfl⟩;rw [aa,bM];have g0:0<Po.gl b.natAbs (ts.take m):=Po.Bv (by omega) _;have gle:Po.gl b.natAbs (ts.take m)<=b.natAbs:=cR (by omega) (Po.xM _ _).1;generalize Po.gl b.natAbs (ts.take m)=g at *;have cd:∀ x:Int,uZ x (g:Int):=fun x=>⟨by omega,9000000,hl.le (by rw [bj];exact gle),by decide⟩;refine ⟨by rw [aa,bf];omega,mI (fun z=>z.fdiv (g:Int)) (ts.take m),mI.nil,fun i d ys hd _ hy=>?_,fun ys _ hy=>?_⟩
   ·obtain ⟨z,hz,rfl⟩:=u7 hd;exact ⟨cd _,hy.snoc hz rfl⟩
   ·cases hy.all (by rw [aa]);exact ⟨cd _,ur,q _ ⟨_,_,rfl,fm,wr,by rw [aa,bf];omega⟩⟩
 ·refine ⟨fun s=>∃ m:Nat,s=[.own ((ts.take m).map .int),.val (.int b),.no,.no]/\m<=ts.length/\∀ j,m<=j->ts.getD j 0=0,fun s=>match s with | .own l::_=>l.length | _=>0,⟨ts.length,by rw [bM],am _,fun j hj=>sS hj⟩,?_⟩;rintro _ ⟨m,rfl,hm,h0⟩;have lm:((ts.take m).map D.int).length=m:=by rw [aa,bf];omega
  refine xJ (p:=(0:Int)<(((ts.take m).map D.int).length:Nat)) (fun c=>?_) (fun c=>?_)
  ·rw [lm] at c;obtain ⟨k,rfl⟩:∃ k,m=k+1:=⟨m-1,by omega⟩;have hk:k<ts.length:=by omega
   have la:xZ ((ts.take (k+1)).map D.int) (-1)=some (.int (ts.getD k 0)):=by
    rw [tW hk,bD];exact Hg _ _
   refine uD la (xJ (p:=ts.getD k 0=0) (fun z=>?_) (fun z=>?_))
   ·refine ⟨fun e=>?_,⟨k,?_,by omega,fun j hj=>?_⟩,?_⟩
    ·rw [e] at lm;cases lm
    ·show [SD.own _,_,_,_]=_;rw [AG hk]
    ·rcases cC hj with w | w
     ·rw [← w];exact z
     ·exact h0 j w
    ·show (((ts.take (k+1)).map D.int)).dropLast.length<((ts.take (k+1)).map D.int).length;rw [AG hk,lm,aa,bf];omega
   ·exact ⟨k+1,rfl,hm,h0,.inr z⟩
  ·rw [lm] at c;exact ⟨m,rfl,hm,h0,.inl (by omega)⟩
theorem vM {ts:List Int}{i k:Nat}{z:Int}(h:i<ts.length):(ts.set i z).getD k 0=if k=i then z else ts.getD k 0:=by
 rw [ac,ac,aN];by_cases e:i=k
 ·subst e;rw [if_pos rfl,if_pos h,if_pos rfl];rfl
 ·rw [if_neg e,if_neg (Ne.symm e)]
theorem map_set {ts:List Int}{i:Nat}{z:Int}:(ts.map D.int).set i (.int z)=(ts.set i z).map D.int:=by
 rw [List.map_set]
theorem yh {ts:List Int}{i k:Nat}(h:i<ts.length):(ts.take (i+1)).getD k 0=(ts.take i).getD k 0+(if k=i then ts.getD i 0 else 0):=by
 rw [tW h];by_cases e:k=i
 ·subst e;rw [if_pos rfl,sS (fs:=ts.take k) (by rw [bf];omega)];have:(ts.take k++[ts.getD k 0]).getD k 0=ts.getD k 0:=tL (by rw [bq (by rw [bf];omega),bf,Nat.min_eq_left (by omega),cD];rfl);rw [this,cJ]
 ·rw [if_neg e,cq,← tW h,ac,ac,fB,fB];by_cases c:k<i
  ·rw [if_pos c,if_pos (by omega)]
  ·rw [if_neg c,if_neg (by omega)]
theorem vT (n:Nat):(List.replicate n [D.int 0]).flatten=(List.replicate n (0:Int)).map D.int:=by
 induction n with
 | zero=>rfl
 | succ n ih=>rw [bB,cF,ih,bB];rfl
theorem xy (n k:Nat):(List.replicate n (0:Int)).getD k 0=0:=by
 rw [ac,eU];split <;> rfl
theorem tT {ts:List Int}{i:Nat}{d:D}(h:(t7 (ts.map D.int))[i]? = some d):i<ts.length/\d = .tup [.int (i:Nat),.int (ts.getD i 0)]:=by
 obtain ⟨x,hx,rfl⟩:=yA h;obtain ⟨hi,rfl⟩:=wp hx;exact ⟨hi,rfl⟩
theorem zU {l:List D}{n:Nat}{Q:Nat->Prop}(h:n<l.length)(q:Q n):atD l (.int (n:Nat)) Q:=by
 unfold atD;dsimp only;have:AX l.length (n:Int)=some n:=by
  unfold AX;rw [if_pos (by omega),if_pos (by omega)];rfl
 rw [this];exact q
def p6:TSd:=(iP [3] (iK iS (iH (iI 3) (iH (iL .Mult (dIx (iI 0) (dC (.int 1))) (dIx (iI 1) (dC (.int 1)))) iJ))))
def p7:TSd:=dSq (jl [] (jg (dIx (iI 1) (dC (.int 0)))) (gTp [4,5])
 (mf [] 3 (iI 4) (iL .Add (oQ 3 (iI 4)) (iL .Mult (iI 5) (dIx (iI 0) (dC (.int 1)))))))
 p6
def j2:TSd:=dSq (jl [] (jg (dIx (iI 0) (dC (.int 0)))) (gTp [4,5])
 (mf [] 3 (iI 4) (iL .Add (oQ 3 (iI 4)) (iL .Mult (iI 5) (dIx (iI 1) (dC (.int 1)))))))
 p7
def j3:TSd:=dSq (kY [] 3 (iL .Mult (iY (iH (dC (.int 0)) iJ)) (iI 2)))
 j2
def rq:TSd:=dSq (iO [] (gNm 2) (dB bMax bMax.mono (iH (dB bLen bLen.mono (iH (dIx (iI 0) (dC (.int 0))) iJ)) (iH (dB bLen bLen.mono (iH (dIx (iI 1) (dC (.int 0))) iJ)) iJ))))
 j3
def m7:SpB:=.of 2 (α:=List Int×Int×List Int×Int×Nat×Nat×Nat×Nat) (fun (P,B,P',B',n,b,m,c) ds=>ds=[pD P B,pD P' B']/\Pc.Pz n b P B/\Pc.Pz m c P' B'/\b+c<=9000000/\n+m<=1000000/\P.length<=900/\P'.length<=900)
 (fun (P,B,P',B',n,b,m,c) d=>∃ R C,d=pD R C/\Po.Fm R C/\∀ k,R.getD k 0*(B*B')=(P.getD k 0*B'+P'.getD k 0*B)*C)
theorem oW:Does 6 rq m7:=by
 rintro ds Q hn ⟨⟨P,B,P',B',n,b,m,c⟩,⟨rfl,G1,G2,hb,hm,l1,l2⟩,q⟩;dsimp only at G1 G2 hb hm l1 l2 q;have sl:(1000:Nat)<=sizeLine:=by rw [sizeLine_eq];decide
 have p1:=G1.fm.pos;have p2:=G2.fm.pos;obtain ⟨M,hM⟩:∃ M:Nat,M=max P.length P'.length:=⟨_,rfl⟩;have lb1:=G1.bot;have lb2:=G2.bot;suffices h:j2.run (tf Q) [.val (pD P B),.val (pD P' B'),.val (.int M),.own ((List.replicate M (0:Int)).map .int),.no,.no] by
  have e0:(if ((P'.map D.int).length:Int) > ((P.map D.int).length:Nat) then ((P'.map D.int).length:Int) else ((P.map D.int).length:Nat))=(M:Nat):=by
   rw [aa,aa];split <;> omega
  suffices h1:j3.run (tf Q) [.val (pD P B),.val (pD P' B'),.val (.int M),.no,.no,.no] by
   show j3.run (tf Q) [.val (pD P B),.val (pD P' B'),.val (.int (if ((P'.map D.int).length:Int) > ((P.map D.int).length:Nat) then ((P'.map D.int).length:Int) else ((P.map D.int).length:Nat))),.no,.no,.no];rw [e0];exact h1
  refine ⟨by rw [sizeLine_eq];decide,by omega,by omega,by show 1*M<=_;omega,?_⟩;show j2.run (tf Q) [.val (pD P B),.val (pD P' B'),.val (.int M),.own (List.replicate M [D.int 0]).flatten,.no,.no];rw [vT];exact h
 refine ⟨fun i s=>∃ F:List Int,∃ o o':SD,s=[.val (pD P B),.val (pD P' B'),.val (.int M),.own (F.map .int),o,o']/\F.length=M/\∀ k,F.getD k 0=(P.take i).getD k 0*B',⟨_,_,_,rfl,bv,fun k=>by rw [xy,fc];simp⟩,?_,?_⟩
 ·rintro i d _ hd ⟨F,o,o',rfl,hF,hf⟩;obtain ⟨hi,rfl⟩:=tT hd;have hiF:i<F.length:=by omega
  refine ⟨rfl,ul (tI hiF) ⟨⟨n,c,G1.tops i,lb2,by omega⟩,zU (by rw [aa];exact hiF) ⟨F.set i (F.getD i 0+P.getD i 0*B'),.val (.int (i:Nat)),.val (.int (P.getD i 0)),?_,by rw [bu];exact hF,fun k=>?_⟩⟩⟩
  ·show [SD.val _,.val _,.val _,.own ((F.map D.int).set i (.int (F.getD i 0+P.getD i 0*B'))),_,_]=_;rw [map_set]
  ·rw [vM hiF,yh hi];by_cases e:k=i
   ·subst e;rw [if_pos rfl,if_pos rfl,hf,fj]
   ·rw [if_neg e,if_neg e,hf,cq]
 ·rintro _ ⟨F,o,o',rfl,hF,hf⟩;rw [tj,aa,bM] at hf;refine ⟨fun i s=>∃ F:List Int,∃ o o':SD,s=[.val (pD P B),.val (pD P' B'),.val (.int M),.own (F.map .int),o,o']/\F.length=M/\∀ k,F.getD k 0=P.getD k 0*B'+(P'.take i).getD k 0*B,⟨F,_,_,rfl,hF,fun k=>by rw [hf,fc];simp⟩,?_,?_⟩
  ·rintro i d _ hd ⟨F,o,o',rfl,hF,hf⟩;obtain ⟨hi,rfl⟩:=tT hd;have hiF:i<F.length:=by omega
   refine ⟨rfl,ul (tI hiF) ⟨⟨m,b,G2.tops i,lb1,by omega⟩,zU (by rw [aa];exact hiF) ⟨F.set i (F.getD i 0+P'.getD i 0*B),.val (.int (i:Nat)),.val (.int (P'.getD i 0)),?_,by rw [bu];exact hF,fun k=>?_⟩⟩⟩
   ·show [SD.val _,.val _,.val _,.own ((F.map D.int).set i (.int (F.getD i 0+P'.getD i 0*B))),_,_]=_;rw [map_set]
   ·rw [vM hiF,yh hi];by_cases e:k=i
    ·subst e;rw [if_pos rfl,if_pos rfl,hf,fj,Int.add_assoc]
    ·rw [if_neg e,if_neg e,hf,cq]
  ·rintro _ ⟨F,o,o',rfl,hF,hf⟩;rw [tj,aa,bM] at hf;refine ⟨⟨b,c,lb1,lb2,by omega⟩,rfl,(F,B*B'),⟨.inl rfl,az p1 p2,(lb1.mul lb2).mono hb,by show F.length<=1000;omega⟩,?_⟩;rintro _ ⟨R,C,rfl,fm,hw,_⟩;exact q _ ⟨R,C,rfl,fm,fun k=>by rw [hw k,hf k]⟩
end Dp
namespace Dp
open PySem L2
def nQ:TSd:=(iP [2] (iK iS (iH (iI 2) (iH (iL .Mult (dIx (iI 0) (dC (.int 1))) (dIx (iI 1) (dC (.int 1)))) iJ))))
def jB:TSd:=dSq (jl [] (jg (dIx (iI 0) (dC (.int 0)))) (gTp [3,4])
 (jl [] (jg (dIx (iI 1) (dC (.int 0)))) (gTp [5,6])
 (mf [] 2 (iL .Add (iI 3) (iI 5)) (iL .Add (oQ 2 (iL .Add (iI 3) (iI 5))) (iL .Mult (iI 4) (iI 6))))))
 nQ
def p8:TSd:=dSq (kY [] 2 (iL .Mult (iY (iH (dC (.int 0)) iJ)) (iL .Add (dB bLen bLen.mono (iH (dIx (iI 0) (dC (.int 0))) iJ)) (dB bLen bLen.mono (iH (dIx (iI 1) (dC (.int 0))) iJ)))))
 jB
def kK:SpB:=.of 2 (α:=List Int×Int×List Int×Int×Nat×Nat×Nat×Nat) (fun (P,B,P',B',n,b,m,c) ds=>ds=[pD P B,pD P' B']/\Pc.Pz n b P B/\Pc.Pz m c P' B'/\b+c<=9000000/\n+m<=1000000/\P.length<=450/\P'.length<=450)
 (fun (P,B,P',B',n,b,m,c) d=>∃ R C,d=pD R C/\Po.Fm R C/\∀ k,R.getD k 0*(B*B')=Cv.cv (Cv.fn P) (Cv.fn P') k*C)
theorem m8:Does 7 p8 kK:=by
 rintro ds Q hn ⟨⟨P1,B1,P2,B2,n,b,m,c⟩,⟨rfl,G1,G2,hb,hm,l1,l2⟩,q⟩;dsimp only at G1 G2 hb hm l1 l2 q;have sl:(1000:Nat)<=sizeLine:=by rw [sizeLine_eq];decide
 have p1:=G1.fm.pos;have p2:=G2.fm.pos;suffices h:jB.run (tf Q) [.val (pD P1 B1),.val (pD P2 B2),.own ((List.replicate (P1.length+P2.length) (0:Int)).map .int),.no,.no,.no,.no] by
  have e0:(((P1.map D.int).length:Nat):Int)+((P2.map D.int).length:Nat)=((P1.length+P2.length:Nat):Int):=by
   rw [aa,aa];omega
  refine ⟨Ba,?_,?_,?_,?_⟩
  ·rw [e0];omega
  ·rw [e0];omega
  ·rw [e0];show 1*(P1.length+P2.length)<=_;omega
  ·show jB.run (tf Q) [.val (pD P1 B1),.val (pD P2 B2),.own (List.replicate ((((P1.map D.int).length:Nat):Int)+((P2.map D.int).length:Nat)).toNat [D.int 0]).flatten,.no,.no,.no,.no];rw [e0,aS,vT];exact h
 refine ⟨fun i s=>∃ (rs:List Int) (o3 o4 o5 o6:SD),s=[.val (pD P1 B1),.val (pD P2 B2),.own (rs.map .int),o3,o4,o5,o6]/\rs.length=P1.length+P2.length/\∀ k,rs.getD k 0=Cv.tm (Cv.fn P1) (Cv.fn P2) i k,⟨_,_,_,_,_,rfl,bv,fun k=>xy _ _⟩,?_,?_⟩
 ·rintro i d _ hd ⟨rs,o3,o4,o5,o6,rfl,lr,hr⟩;obtain ⟨hi,rfl⟩:=tT hd;refine ⟨rfl,fun k s=>∃ (rs:List Int) (o5 o6:SD),s=[.val (pD P1 B1),.val (pD P2 B2),.own (rs.map .int),.val (.int (i:Nat)),.val (.int (P1.getD i 0)),o5,o6]/\rs.length=P1.length+P2.length/\∀ m,rs.getD m 0=Cv.tm (Cv.fn P1) (Cv.fn P2) i m+(if i<=m/\m-i<k then Cv.fn P1 i*Cv.fn P2 (m-i) else 0),⟨rs,_,_,rfl,lr,fun m=>by rw [hr m,if_neg (by omega),cq]⟩,?_,?_⟩
  ·rintro k d _ hd ⟨rs',o5',o6',rfl,lr',hr4⟩;obtain ⟨hk,rfl⟩:=tT hd;have ik:(i:Int)+(k:Int)=((i+k:Nat):Int):=by omega
   have hiF:i+k<rs'.length:=by omega
   refine ⟨rfl,?_⟩;show itI (rs'.map D.int) (.int ((i:Int)+(k:Int))) _;rw [ik];refine ul (tI hiF) ⟨⟨n,m,G1.tops i,G2.tops k,by omega⟩,?_⟩;show atD (rs'.map D.int) (.int ((i:Int)+(k:Int))) _;rw [ik];refine zU (by rw [aa];exact hiF) ⟨rs'.set (i+k) (rs'.getD (i+k) 0+P1.getD i 0*P2.getD k 0),.val (.int (k:Nat)),.val (.int (P2.getD k 0)),?_,by rw [bu];exact lr',fun m=>?_⟩
   ·show [SD.val _,.val _,.own ((rs'.map D.int).set (i+k) (.int (rs'.getD (i+k) 0+P1.getD i 0*P2.getD k 0))),_,_,_,_]=_;rw [map_set]
   ·rw [vM hiF];by_cases e:m=i+k
    ·subst e;rw [if_pos rfl,hr4,if_neg (by omega),if_pos ⟨by omega,by omega⟩,show i+k-i=k by omega,cq];rfl
    ·rw [if_neg e,hr4];congr 1;by_cases c:i<=m/\m-i<k
     ·rw [if_pos c,if_pos ⟨c.1,by omega⟩]
     ·rw [if_neg c,if_neg (by omega)]
  ·rintro _ ⟨rs',o5',o6',rfl,lr',hr4⟩;rw [tj,aa] at hr4;refine ⟨rs',_,_,_,_,rfl,lr',fun m=>?_⟩;rw [hr4 m,Cv.yN];congr 1;by_cases c:i<=m
   ·rw [if_pos c];by_cases c':m-i<P2.length
    ·rw [if_pos ⟨c,c'⟩]
    ·rw [if_neg (fun z=>c' z.2),Cv.sT (P:=P2) (by omega),bw]
   ·rw [if_neg c,if_neg (fun z=>c z.1)]
 ·rintro _ ⟨rs,o3,o4,o5,o6,rfl,lr,hr⟩;rw [tj,aa] at hr;refine ⟨⟨b,c,G1.bot,G2.bot,by omega⟩,rfl,(rs,B1*B2),⟨.inl rfl,az p1 p2,(G1.bot.mul G2.bot).mono hb,by show rs.length<=1000;omega⟩,?_⟩;rintro _ ⟨R,C,rfl,fm,hw,_⟩;exact q _ ⟨R,C,rfl,fm,fun k=>by rw [hw k];show rs.getD k 0*C=_;rw [hr k,Cv.vj fun j h=>Cv.sT h]⟩
def qM:TSd:=(iP [] (iI 2))
def qN:TSd:=dSq (jl [] (m5 (dIx (iI 0) (dC (.int 0)))) (gNm 3)
 (iO [] (gNm 2) (iK m7 (iH (iK kK (iH (iI 2) (iH (iI 1) iJ))) (iH (iK iS (iH (iY (iH (iI 3) iJ)) (iH (dIx (iI 0) (dC (.int 1))) iJ))) iJ)))))
 qM
def rV:TSd:=dSq (iO [] (gNm 2) (iZ (iH (iZ iJ) (iH (dC (.int 1)) iJ))))
 qN
def ke:SpB:=.of 2 (α:=List Int×Int×List Int×Int×Nat×Nat×Nat×Nat) (fun (P,B,P',B',n,b,m,c) ds=>ds=[pD P B,pD P' B']/\Pc.Pz n b P B/\Pc.Pz m c P' B'/\b+b+c*P.length<=8900000/\n+(m+c+10)*(P.length+1)<=400000/\P.length*P'.length<=190/\P.length<=190/\P'.length<=190)
 (fun (P,B,P',B',n,b,m,c) d=>∃ R C,d=pD R C/\Pc.Of P B P' B' R C)
theorem p9:Does 4 rV ke:=by
 rintro ds Q hn ⟨⟨P1,B1,P2,B2,n,b,m,c⟩,⟨rfl,G1,G2,hb,hn,hl,l1,l2⟩,q⟩;dsimp only at G1 G2 hb hn hl l1 l2 q;have p1:=G1.fm.pos;have p2:=G2.fm.pos;have hL:(m+c+10)*P1.length+(m+c+10)=(m+c+10)*(P1.length+1):=by rw [bJ]
 have hg:∀ k,P2.length<=k->Cv.fn P2 k=0:=fun k h=>Cv.sT h;refine ⟨by rw [sizeLine_eq];decide,by rw [sizeLine_eq];decide,fun i s=>∃ (R:List Int) (C:Int) (o3:SD) (M:Nat->Int),s=[.val (pD P1 B1),.val (pD P2 B2),.val (pD R C),o3]/\Po.Fm R C/\(∀ k,R.getD k 0*(B1*B2^i)=M k*B2*C)/\(∀ k,i*P2.length+1<=k->M k=0)/\(∀ k,Lt2 (n+(m+c+10)*i+1) (M k)) /\
   ∀ k,Pc.pc (Cv.fn P1) (Cv.fn P2) B2 P1.length k=B2^i*Pc.pc (Cv.fn P1) (Cv.fn P2) B2 (P1.length-i) k+B2*Cv.cv (Pc.cp (Cv.fn P2) (P1.length-i)) M k,
  ⟨[],1,.no,fun _=>0,rfl,⟨by decide,.inl rfl,rfl⟩,fun k=>by rw [sS (fs:=([]:List Int)) (aC _)];simp,fun _ _=>rfl,fun k=>bA (by decide),fun k=>by rw [Cv.Fg fun j=>rfl];simp⟩,?_,?_⟩
 ·rintro i z _ hz ⟨R,C,o3,M,rfl,fx,ex,oM,lM,eM⟩;have hi:i<P1.length:=by have:=(aj.mp hz).1;simpa using this
  rw [bX (by rw [aa];exact hi),aa] at hz;obtain ⟨_,rfl⟩:=wp hz;have li:(m+c+10)*(i+1)<=(m+c+10)*P1.length:=ak _ hi;rw [bJ] at li;have li2:(i+1)*P2.length<=P1.length*P2.length:=bI _ hi;rw [bo] at li2;have li3:c*(i+1)<=c*P1.length:=ak _ hi;rw [bJ] at li3;have W:=Hv.pow_pos p2 i;have lW:=Hv.tx G2.bot i;have li5:c*i<=(m+c+10)*i:=bI _ (by omega);have c0:=fx.pos;have zx:Pc.Pz (n+(m+c+10)*i+1+c) (b+(c*i+1)) R C:=Pc.Pz.of fx (az p1 W) ex (fun k=>(lM k).mul G2.bot) (G1.bot.mul lW);have lx:R.length<=i*P2.length+1:=Pc.tQ fx (az p1 W) ex (fun k hk=>by rw [oM k hk,aL]);have top:=G1.tops (P1.length-1-i);refine ⟨rfl,(R,C,P2,B2,_,_,_,_),⟨rfl,zx,G2,by omega,by omega,by show R.length<=450;omega,by show P2.length<=450;omega⟩,?_⟩;rintro _ ⟨TT,tb,rfl,fT,eT⟩;have t0:=fT.pos;have eT':∀ k,TT.getD k 0*(B1*(B2^i*B2))=Cv.cv M (Cv.fn P2) k*B2*tb:=fun k=>Pc.IE c0 ex (eT k);have W2:=az W p2;have cM:∀ k,Lt2 (n+(m+c+10)*i+1+m+9) (Cv.cv M (Cv.fn P2) k):=fun k=>by
   rcases ao k 500 with cc | cc
   ·exact Cv.CP lM G2.tops (by omega)
   ·rw [Cv.tX (a:=i*P2.length+1) (b:=P2.length) oM hg (by omega)];exact bA (by decide)
  have oT:∀ k,(i+1)*P2.length+1<=k->Cv.cv M (Cv.fn P2) k=0:=fun k hk=>Cv.tX (a:=i*P2.length+1) (b:=P2.length) oM hg (by rw [bo] at hk;omega);have zT:Pc.Pz (n+(m+c+10)*i+1+m+9+c) (b+(c*i+1+c)) TT tb:=Pc.Pz.of fT (az p1 W2) eT' (fun k=>(cM k).mul G2.bot) (G1.bot.mul (lW.mul G2.bot));have lT:TT.length<=(i+1)*P2.length+1:=Pc.tQ fT (az p1 W2) eT' (fun k hk=>by rw [oT k hk,aL]);rw [bo] at lT;refine ⟨Ba,rfl,([P1.getD (P1.length-1-i) 0],B1),⟨.inl rfl,p1,G1.bot.mono (by omega),by show 1<=1000;decide⟩,?_⟩;rintro _ ⟨E,eb,rfl,fe,ee,le⟩;dsimp only at ee le;have e0:=fe.pos;have ze:Pc.Pz n b E eb:=Pc.Pz.of fe p1 ee (fun k=>by
   cases k with
   | zero=>exact top
   | succ k=>rw [sS (fs:=[P1.getD (P1.length-1-i) 0]) (by simp)];exact bA (by decide)) G1.bot
  have le':E.length<=1:=le;refine ⟨rfl,(TT,tb,E,eb,_,_,_,_),⟨rfl,zT,ze,by omega,by omega,by show TT.length<=900;omega,by show E.length<=900;omega⟩,?_⟩;rintro _ ⟨R',C',rfl,fx',ex'⟩;refine ⟨R',C',_,fun j=>Cv.cv M (Cv.fn P2) j+(if j=0 then Cv.fn P1 (P1.length-1-i)*B2^i else 0),rfl,fx',fun k=>?_,fun k hk=>?_,fun k=>?_,fun k=>Pc.E4 hg hi eM _ fun j=>rfl⟩
  ·rw [aI];have y:=Pc.ID t0 e0 (eT' k) (ee k) (ex' k);rw [y];congr 2;show _=_+_;congr 1;cases k with
   | zero=>rfl
   | succ k=>rw [sS (fs:=[P1.getD (P1.length-1-i) 0]) (by simp),if_neg (by omega),aL]
  ·show Cv.cv M (Cv.fn P2) k+(if k=0 then Cv.fn P1 (P1.length-1-i)*B2^i else 0)=0;rw [oT k hk,if_neg (by omega)];rfl
  ·have y2:Lt2 (n+(m+c+10)*i+1+m+9) (if k=0 then Cv.fn P1 (P1.length-1-i)*B2^i else 0):=by
    split
    ·exact (top.mul lW).mono (by omega)
    ·exact bA (by decide)
   exact ((cM k).add y2).mono (by rw [bJ];omega)
 ·rintro _ ⟨R,C,o3,M,rfl,fx,ex,oM,lM,eM⟩;rw [bO,aa] at ex eM;refine q _ ⟨R,C,rfl,fx,fun k=>?_⟩;rw [ex k,eM k,cD];show _=(_*0+B2*Cv.cv Pc.d0 M k)*C;rw [Pc.xP,bw,cJ,bt B2]
end Dp
namespace Dp
open PySem L2
def FqD (n b:Nat)(d:D)(r:Rat):Prop:=∃ t u:Int,d=fD t u/\0<u/\Int.gcd t u=1/\Lt2 n t/\Lt2 b u/\r=(t:Rat) / (u:Rat)
theorem FqD.of {t u:Int}{n b:Nat}(u0:0<u)(lt:Lt2 n t)(lu:Lt2 b u):FqD n b (fD (Fr.top t u) (Fr.bot t u)) ((t:Rat) / (u:Rat)):=by
 obtain ⟨l1,l2,l3⟩:=Fr.low (t:=t) (b:=u) (by omega);obtain ⟨m1,m2⟩:=Fr.yM (t:=t) (b:=u) (by omega);exact ⟨_,_,rfl,l1,l3,lt.le m1,lu.le m2,(Qp.tR (by omega) (by omega)).mpr l2.symm⟩
theorem FqD.mono {n b n' b':Nat}{d:D}{r:Rat}(h:FqD n b d r)(l:n<=n')(l':b<=b'):FqD n' b' d r:=by
 obtain ⟨t,u,e,h1,h2,h3,h4,h5⟩:=h;exact ⟨t,u,e,h1,h2,h3.mono l,h4.mono l',h5⟩
def jC:SpB:=.of 2 (α:=Int) (fun m ds=>ds=[.fl,.int m]/\0<=m/\Lt2 8000 m) (fun m d=>∃ z,d = .int z /\ -m<=z/\z<=m)
def oX:TSd:=(iP [] (iL .Sub (iK iN (iH (iI 0) (iH (iL .Add (iL .Mult (dC (.int 2)) (iI 1)) (dC (.int 1))) iJ))) (iI 1)))
theorem mB:Does 2 oX jC:=by
 rintro ds Q hn ⟨m,⟨rfl,m0,m1⟩,q⟩;have two:Lt2 2 2:=by decide
 have lm:Lt2 9000 (2*m+1):=((two.mul m1).add ((show Lt2 1 1 by decide).mono (m:=2+8000) (by omega))).mono (by omega);refine ⟨⟨_,_,two,m1,by omega⟩,rfl,2*m+1,⟨rfl,by omega,lm⟩,?_⟩;rintro _ ⟨i,rfl,i0,i1⟩;exact q _ ⟨_,rfl,by omega,by omega⟩
theorem DK {m:Int}{n:Nat}(h:m.natAbs<1000)(hn:10<=n:=by decide):Lt2 n m:=by
 unfold Lt2;exact aE (Nat.lt_trans h (show 1000<2^10 by decide)) (bE (by decide) hn)
theorem Et {a b c e:Int}{i:Int}(h0:0<=i)(h1:i<4){Q:D->Prop}(qa:Q (.int a))(qb:Q (.int b))(qc:Q (.int c))(qe:Q (.int e)):itD [.int a,.int b,.int c,.int e] i Q:=by
 rcases (by omega:i=0\/i=1\/i=2\/i=3) with rfl | rfl | rfl | rfl
 ·exact qa
 ·exact qb
 ·exact qc
 ·exact qe
def jc:SpB:=.of 2 (α:=Int×Nat) (fun (m,M) ds=>ds=[.fl,.int m]/\1<=m/\Lt2 M m/\2<=M/\M<=4000) (fun (m,M) d=>∃ r,FqD M M d r)
def kw:TSd:=(iP [] (iK iV (iH (iK jC (iH (iI 0) (iH (iI 1) iJ))) (iH (iL .Add (dC (.int 1)) (iK iN (iH (iI 0) (iH (dIx (iY (iH (dC (.int 1)) (iH (dC (.int 1)) (iH (dC (.int 3)) (iH (iI 1) iJ))))) (iK iN (iH (iI 0) (iH (dC (.int 4)) iJ)))) iJ)))) iJ))))
theorem jV:Does 2 kw jc:=by
 rintro ds Q hn ⟨⟨m,M⟩,⟨rfl,m1,lm,M2,M4⟩,q⟩;refine ⟨rfl,m,⟨rfl,by omega,lm.mono (by omega)⟩,?_⟩;rintro _ ⟨z,rfl,z0,z1⟩;refine ⟨vf (n:=4) (by decide),rfl,4,⟨rfl,by decide,DK (by decide)⟩,?_⟩;rintro _ ⟨i,rfl,i0,i1⟩;have l3:Lt2 M 3:=(show Lt2 2 3 by decide).mono M2;have key:∀ u:Int,1<=u->Lt2 M u->([D.fl,.int u].length=iN.n/\iN.run [.fl,.int u] fun d=>oAdd (.int 1) d fun d=>[D.int z,d].length=iV.n/\iV.run [.int z,d] Q):=fun u u1 lu=>by
  refine ⟨rfl,u,⟨rfl,by omega,lu.mono (by omega)⟩,?_⟩;rintro _ ⟨e,rfl,e0,e1⟩;have lb:Lt2 M (1+e):=lu.le (by omega);refine ⟨rfl,(z,1+e),⟨rfl,by show 1+e≠0;omega,lb.mono (by omega)⟩,?_⟩;rintro _ rfl;exact q _ ⟨_,FqD.of (by omega) (lm.le (by omega)) lb⟩
 exact Et i0 i1 (key 1 (by decide) (l3.le (by decide))) (key 1 (by decide) (l3.le (by decide))) (key 3 (by decide) l3) (key m m1 lm)
theorem uT {α:Type}{fs:List α}{i:Nat}{d:α}(h:i<fs.length):fs.getD i d∈fs:=by
 rw [ac,aq h];exact eQ h
theorem wC (n:Nat):Lt2 n 0:=bA (by decide)
theorem BI {ts:List Int}{c B:Int}{P:List Int}{M N:Nat}(fm:Po.Fm P B)(hw:∀ k,P.getD k 0*c=ts.getD k 0*B)(hle:P.length<=ts.length)(hl:ts.length=N+1)(hs:∀ t∈ts,Lt2 M t)(c0:0<c)(lc:Lt2 3 c)(last:ts.getD N 0≠0):Pc.Pz M 3 P B/\P.length=N+1:=by
 have pB:=fm.pos;refine ⟨Pc.Pz.of (f:=fun k=>ts.getD k 0) fm c0 hw (fun k=>?_) lc,?_⟩
 ·rcases ao k ts.length with z | z
  ·exact hs _ (uT z)
  ·rw [sS z];exact wC _
 ·rcases ao N P.length with z | z
  ·omega
  ·have e:=hw N;rw [sS z,aL] at e;rcases cy.mp e.symm with y | y
   ·exact absurd y last
   ·omega
theorem Nx {d:Int}:(if decide ((0:Int)<d) then (1:Int) else 0)=0\/(if decide ((0:Int)<d) then (1:Int) else 0)=1:=by
 by_cases c:(0:Int)<d
 ·exact .inr (by rw [if_pos (by simpa using c)])
 ·exact .inl (by rw [if_neg (by simpa using c)])
def drI (M:Nat):Nat->List D->Prop:=fun i ys=>∃ ts:List Int,ys=ts.map D.int/\ts.length=i/\∀ t∈ts,Lt2 M t
theorem drI.nil {M:Nat}:drI M 0 []:=⟨[],rfl,rfl,fun t h=>absurd h aP⟩
theorem drI.snoc {M i:Nat}{ys:List D}{z:Int}(h:drI M i ys)(hz:Lt2 M z):drI M (i+1) (ys++[.int z]):=by
 obtain ⟨ts,rfl,h1,h2⟩:=h;refine ⟨ts++[z],by rw [bD];rfl,by rw [aD,h1];rfl,fun t ht=>?_⟩;rcases cu.mp ht with w | w
 ·exact h2 t w
 ·rw [av.mp w];exact hz
theorem KZ {M:Nat}{z d:Int}(lz:Lt2 M z)(M4:M<=8000):CMulB z (if decide ((0:Int)<d) then (1:Int) else 0)/\Lt2 M (z*(if decide ((0:Int)<d) then (1:Int) else 0)):=by
 rcases Nx (d:=d) with e | e
 ·rw [e];exact ⟨⟨M,1,lz,by decide,by omega⟩,by rw [bw];exact wC _⟩
 ·rw [e];exact ⟨⟨M,1,lz,by decide,by omega⟩,by rw [bh];exact lz⟩
def je:SpB:=.of 3 (α:=Nat×Int×Nat) (fun (N,m,M) ds=>ds=[.fl,.int N,.int m]/\N<=100/\1<=m/\Lt2 M m/\M<=4000) (fun (N,m,M) d=>∃ P B,d=pD P B/\Pc.Pz M 3 P B/\P.length=N+1)
def jJ:TSd:=(iP [] (iK iS (iH (iL .Add (iI 3) (iY (iH (iI 5) iJ))) (iH (iL .Add (dC (.int 1)) (iK iN (iH (iI 0) (iH (dIx (iY (iH (dC (.int 1)) (iH (dC (.int 1)) (iH (dC (.int 2)) (iH (dC (.int 6)) iJ))))) (iK iN (iH (iI 0) (iH (dC (.int 4)) iJ)))) iJ)))) iJ))))
def lv:TSd:=dSq (iO [] (gNm 5) (dIx (iY (iH (dC (.int 1)) (iH (iL .Sub (dC (.int 0)) (dC (.int 1))) (iH (iL .Add (dC (.int 1)) (iK iN (iH (iI 0) (iH (iI 2) iJ)))) (iH (iL .Sub (iL .Sub (dC (.int 0)) (dC (.int 1))) (iK iN (iH (iI 0) (iH (iI 2) iJ)))) iJ))))) (iK iN (iH (iI 0) (iH (dC (.int 4)) iJ)))))
 jJ
def nc:TSd:=dSq (iO [] (gNm 3) (iT (ms (iI 1)) [4] (gNm 4) i9 (iL .Mult (iK jC (iH (iI 0) (iH (iI 2) iJ))) (dB bInt bInt.mono (iH (iR .Gt (iK iN (iH (iI 0) (iH (dC (.int 4)) iJ))) (dC (.int 0))) iJ)))))
 lv
theorem kL:Does 6 nc je:=by
 rintro ds Q hn ⟨⟨N,m,M⟩,⟨rfl,hN,m1,lm,M4⟩,q⟩;dsimp only at hN m1 lm M4 q;refine ⟨by omega,by omega,by rw [tq];exact vf (by omega),drI M,drI.nil,fun i d ys hd _ hy=>?_,fun ys _ hy=>?_⟩
 ·obtain ⟨hi,rfl⟩:=tK hd;refine ⟨rfl,m,⟨rfl,by omega,lm.mono (by omega)⟩,?_⟩;rintro _ ⟨z,rfl,z0,z1⟩;refine ⟨rfl,4,⟨rfl,by decide,DK (by decide)⟩,?_⟩;rintro _ ⟨j,rfl,j0,j1⟩;obtain ⟨h1,h2⟩:=KZ (d:=j) (lm.le (j:=z) (by omega)) (by omega);exact ⟨h1,hy.snoc h2⟩
 rw [tq] at hy;obtain ⟨ts,rfl,lt,ht⟩:=hy;have lt:ts.length=N:=by omega
 refine ⟨rfl,m,⟨rfl,by omega,lm.mono (by omega)⟩,?_⟩;rintro _ ⟨d1,rfl,d10,d11⟩;refine ⟨rfl,m,⟨rfl,by omega,lm.mono (by omega)⟩,?_⟩;rintro _ ⟨d2,rfl,d20,d21⟩;refine ⟨vf (n:=4) (by decide),rfl,4,⟨rfl,by decide,DK (by decide)⟩,?_⟩;rintro _ ⟨d3,rfl,d30,d31⟩;have key:∀ u:Int,u≠0->Lt2 M u->jJ.run (tf Q) [.val .fl,.val (.int N),.val (.int m),.val (.lst (ts.map .int)),.no,.val (.int u)]:=fun u u0 lu=>by
  refine ⟨Ba,?_,?_⟩
  ·rw [aa];exact vf (by show ts.length+1<=_;omega)
  refine ⟨vf (n:=4) (by decide),rfl,4,⟨rfl,by decide,DK (by decide)⟩,?_⟩;rintro _ ⟨d5,rfl,d50,d51⟩;have fin:∀ c:Int,1<=c->c<=6->([D.fl,.int c].length=iN.n/\iN.run [.fl,.int c] fun d=>oAdd (.int 1) d fun d=>[D.lst (ts.map .int++[.int u]),d].length=iS.n/\iS.run [.lst (ts.map .int++[.int u]),d] Q):=fun c c1 c6=>by
   refine ⟨rfl,c,⟨rfl,by omega,DK (by omega)⟩,?_⟩;rintro _ ⟨e,rfl,e0,e1⟩;have b3:Lt2 3 (1+e):=Lt2.of 6 (by omega) (by decide);have em:ts.map D.int++[.int u]=(ts++[u]).map D.int:=by rw [bD];rfl
   have last:(ts++[u]).getD N 0=u:=tL (by rw [bq (by omega),lt,cD];rfl);rw [em];refine ⟨rfl,(ts++[u],1+e),⟨.inl rfl,by show 0<1+e;omega,b3.mono (by decide),by show (ts++[u]).length<=1000;rw [aD,lt];show N+1<=1000;omega⟩,?_⟩;rintro _ ⟨P1,B1,rfl,fm,hw,hle⟩;dsimp only at hw hle;obtain ⟨z1,z2⟩:=BI (M:=M) (N:=N) fm hw hle (by rw [aD,lt];rfl) (fun t h=>by
    rcases cu.mp h with y | y
    ·exact ht _ y
    ·rw [av.mp y];exact lu) (by omega) b3 (by rw [last];exact u0)
   exact q _ ⟨P1,B1,rfl,z1,z2⟩
  exact Et d50 d51 (fin 1 (by decide) (by decide)) (fin 1 (by decide) (by decide)) (fin 2 (by decide) (by decide)) (fin 6 (by decide) (by decide))
 exact Et d30 d31 (key 1 (by decide) (lm.le (by omega))) (key (0-1) (by decide) (lm.le (by omega))) (key (1+d1) (by omega) (lm.le (by omega))) (key (0-1-d2) (by omega) (lm.le (by omega)))
end Dp
namespace Dp
open PySem L2
theorem IF {ta ba tb bb B:Int}{P:List Int}{n1 b1 n2 b2:Nat}(st:Pc.St ta ba tb bb P B)(a0:0<ba)(b0:0<bb)(l1:Lt2 n1 ta)(l2:Lt2 b1 ba)(l3:Lt2 n2 tb)(l4:Lt2 b2 bb):Pc.Pz (n1+n2+b1+b2) (b1+b2) P B :=
 Pc.Pz.of st.1 (az a0 b0) st.2 (fun k=>by
  match k with
  | 0=>exact (l3.mul l2).mono (by omega)
  | 1=>exact (l1.mul l4).mono (by omega)
  | k+2=>exact wC _) (l2.mul l4)
theorem MU {ta ba tb bb B:Int}{P:List Int}{n1 b1 n2 b2:Nat}(st:Pc.St ta ba tb bb P B)(a0:0<ba)(b0:0<bb)(l1:Lt2 n1 ta)(l2:Lt2 b1 ba)(l3:Lt2 n2 tb)(l4:Lt2 b2 bb) :
  Pc.Pz (n1+n2+b1+b2) (b1+b2) P B/\(∀ x,Qp.E P B x=(ta:Rat) / (ba:Rat)*x+(tb:Rat) / (bb:Rat))/\P.length<=2/\Qp.q P B 0=(tb:Rat) / (bb:Rat)/\Qp.q P B 1=(ta:Rat) / (ba:Rat):=by
 have p:=az a0 b0;have q:=fun k=>Qp.Ak (f:=fun k=>[tb*ba,ta*bb].getD k 0) st.1.pos (aA p) st.2 k;refine ⟨IF st a0 b0 l1 l2 l3 l4,Qp.MQ st a0 b0,Pc.tQ st.1 p st.2 fun k hk=>?_,?_,?_⟩
 ·obtain ⟨j,rfl⟩:∃ j,k=j+2:=⟨k-2,by omega⟩;exact Pc.yL _ _ _
 ·rw [q 0];exact (Qp.tR (aA p) (by omega)).mpr (by show tb*ba*bb=tb*(ba*bb);grind)
 ·rw [q 1];exact (Qp.tR (aA p) (by omega)).mpr (by show ta*bb*ba=ta*(ba*bb);grind)
theorem xm {P:List Int}{B:Int}(h:Qp.q P B 1≠0)(l:P.length<=2):P.length=2/\P.getD 1 0≠0:=by
 have n1:P.getD 1 0≠0:=fun z=>h (by
  unfold Qp.q;rw [z];show ((0:Int):Rat) / _=0;have:((0:Int):Rat)=0:=rfl;rw [this];grind)
 refine ⟨?_,n1⟩;rcases ao 1 P.length with z | z
 ·omega
 ·exact absurd (sS z) n1
def jr:SpB:=.of 2 (α:=D×D×Rat×Rat×Nat×Nat×Nat×Nat) (fun (d1,d2,r1,r2,n1,b1,n2,b2) ds=>ds=[d1,d2]/\FqD n1 b1 d1 r1/\FqD n2 b2 d2 r2/\b1+b2<=4000/\n1<=100000/\n2<=100000)
 (fun (d1,d2,r1,r2,n1,b1,n2,b2) d=>∃ P B,d=pD P B/\Pc.Pz (n1+n2+b1+b2) (b1+b2) P B/\(∀ x,Qp.E P B x=r1*x+r2)/\P.length<=2/\Qp.q P B 0=r2/\Qp.q P B 1=r1)
def ng:TSd:=(iP [] (iK iS (iH (iY (iH (iL .Mult (dIx (iI 1) (dC (.int 0))) (dIx (iI 0) (dC (.int 1)))) (iH (iL .Mult (dIx (iI 0) (dC (.int 0))) (dIx (iI 1) (dC (.int 1)))) iJ))) (iH (iL .Mult (dIx (iI 0) (dC (.int 1))) (dIx (iI 1) (dC (.int 1)))) iJ))))
theorem kM:Does 2 ng jr:=by
 rintro ds Q hn ⟨⟨d1,d2,r1,r2,n1,b1,n2,b2⟩,⟨rfl,⟨ta,ba,rfl,a0,c2,l1,l2,rfl⟩,⟨tb,bb,rfl,b0,e2,l3,l4,rfl⟩,ln,m1,m2⟩,q⟩;dsimp only at ln m1 m2 q;refine ⟨⟨_,_,l3,l2,by omega⟩,⟨_,_,l1,l4,by omega⟩,ur,⟨_,_,l2,l4,by omega⟩,rfl,([tb*ba,ta*bb],ba*bb),⟨.inl rfl,az a0 b0,(l2.mul l4).mono (by omega),by show 2<=1000;decide⟩,?_⟩;rintro _ ⟨P,B,rfl,fm,hw,hle⟩;obtain ⟨x1,x2,x3,x4,x5⟩:=MU ⟨fm,hw⟩ a0 b0 l1 l2 l3 l4;exact q _ ⟨P,B,rfl,x1,x2,x3,x4,x5⟩
theorem ua {n:Nat}{t:Int}(l:Lt2 n t):FqD n 1 (fD t 1) (t:Rat):=⟨t,1,rfl,by decide,by simp,l,by decide,by have:((1:Int):Rat)=1:=rfl;rw [this];grind⟩
def jv:SpB:=.of 2 (α:=Int×Nat) (fun (m,M) ds=>ds=[.fl,.int m]/\1<=m/\Lt2 M m/\2<=M/\M<=1000) (fun (m,M) d=>∃ P B,d=pD P B/\Pc.Pz (4*M) (2*M) P B/\P.length=2/\P.getD 1 0≠0)
def jm:TSd:=(iP [] (iK jr (iH (iI 2) (iH (iK jc (iH (iI 0) (iH (iI 1) iJ))) iJ))))
def ky:TSd:=dSq (iO [] (gNm 2) (dIx (iY (iH (iZ (iH (dC (.int 1)) (iH (dC (.int 1)) iJ))) (iH (iZ (iH (iL .Sub (dC (.int 0)) (dC (.int 1))) (iH (dC (.int 1)) iJ))) (iH (iK iV (iH (iL .Add (dC (.int 1)) (iK iN (iH (iI 0) (iH (iI 1) iJ)))) (iH (iL .Add (dC (.int 1)) (iK iN (iH (iI 0) (iH (dC (.int 3)) iJ)))) iJ))) iJ)))) (iK iN (iH (iI 0) (iH (dC (.int 3)) iJ)))))
 jm
theorem jW:Does 3 ky jv:=by
 rintro ds Q hn ⟨⟨m,M⟩,⟨rfl,m1,lm,M2,M4⟩,q⟩;dsimp only at m1 lm M2 M4 q;refine ⟨ur,ur,rfl,m,⟨rfl,by omega,lm.mono (by omega)⟩,?_⟩;rintro _ ⟨d1,rfl,d10,d11⟩;refine ⟨rfl,3,⟨rfl,by decide,DK (by decide)⟩,?_⟩;rintro _ ⟨d2,rfl,d20,d21⟩;have b2:Lt2 M (1+d2):=(show Lt2 2 (1+d2) from Lt2.of 3 (by omega) (by decide)).mono M2;refine ⟨rfl,(1+d1,1+d2),⟨rfl,by show 1+d2≠0;omega,b2.mono (by omega)⟩,?_⟩;rintro _ rfl;dsimp only;refine ⟨vf (n:=3) (by decide),rfl,3,⟨rfl,by decide,DK (by decide)⟩,?_⟩;rintro _ ⟨d3,rfl,d30,d31⟩;have fin:∀ (u:D) (r:Rat),FqD M M u r->r≠0->jm.run (tf Q) [.val .fl,.val (.int m),.val u]:=fun u r fu r0=>by
  refine ⟨rfl,(m,M),⟨rfl,m1,lm,M2,by show M<=4000;omega⟩,?_⟩;rintro _ ⟨r2,f2⟩;refine ⟨rfl,(u,_,r,r2,M,M,M,M),⟨rfl,fu,f2,by show M+M<=4000;omega,by show M<=100000;omega,by show M<=100000;omega⟩,?_⟩;rintro _ ⟨P1,B1,rfl,z1,e1,l1,q0,q1⟩;obtain ⟨len,n1⟩:=xm (by rw [q1];exact r0) l1;exact q _ ⟨P1,B1,rfl,z1.mono (by show M+M+M+M<=_;omega) (by show M+M<=_;omega),len,n1⟩
 have f3:=FqD.of (t:=1+d1) (u:=1+d2) (by omega) (lm.le (j:=1+d1) (by omega)) b2;have n3:((1+d1:Int):Rat) / ((1+d2:Int):Rat)≠0:=(Fq.ne (p:=0) (by omega) rfl).mpr (by omega);rcases (by omega:d3=0\/d3=1\/d3=2) with rfl | rfl | rfl
 ·exact fin _ _ ((ua (n:=1) (t:=1) (by decide)).mono (by omega) (by omega)) (by decide)
 ·exact fin _ _ ((ua (n:=1) (t:=-1) (by decide)).mono (by omega) (by omega)) (by decide)
 ·exact fin _ _ f3 n3
end Dp
namespace Dp
open PySem L2
def iM:SpB:=.of 2 (α:=Int×Nat×Nat) (fun (n,k,M) ds=>ds=[.int n,.int k]/\Lt2 M n/\k<=200/\(M+1)*(k+1)<=400000) (fun (n,k,M) d=>d = .int (n^k))
def mC:TSd:=(iP [] (iI 2))
def mD:TSd:=dSq (jl [] (ms (iI 1)) (gNm 3)
 (nM [] 2 .Mult (iI 0)))
 mC
def nS:TSd:=dSq (iO [] (gNm 2) (dC (.int 1)))
 mD
theorem lE:Does 4 nS iM:=by
 rintro ds Q hn ⟨⟨n,k,M⟩,⟨rfl,ln,hk,hM⟩,q⟩;dsimp only at ln hk hM q;refine ⟨by omega,by omega,fun i s=>∃ o,s=[.val (.int n),.val (.int k),.val (.int (n^i)),o],⟨.no,by rw [aT];rfl⟩,?_,?_⟩
 ·rintro i d _ hd ⟨o,rfl⟩;obtain ⟨hi,rfl⟩:=tK hd;have hi:i<k:=by omega
  have lp:=Hv.tx ln i;have l1:M*i<=(M+1)*(k+1):=cb (by omega) (by omega);have l2:M<=(M+1)*(k+1):=aH (by omega) (b9 (M+1) (by omega));exact ⟨⟨_,_,lp,ln,by omega⟩,_,by rw [aI];rfl⟩
 ·rintro _ ⟨o,rfl⟩;rw [tq,aS];exact q _ rfl
def i8:SpB:=.of 1 (α:=List Int×Int) (fun (P,B) ds=>ds=[pD P B]) (fun (P,B) d=>d = .int ((P.length:Int)-1))
def rW:TSd:=(iP [] (iL .Sub (dB bLen bLen.mono (iH (dIx (iI 0) (dC (.int 0))) iJ)) (dC (.int 1))))
theorem qg:Does 1 rW i8:=by
 rintro ds Q hn ⟨⟨P,B⟩,rfl,q⟩;refine q _ ?_;show D.int (((P.map D.int).length:Int)-1)=_;rw [aa]
theorem CS {ts:List Int}{m:Nat}(hm:m<=ts.length):x9 (ts.map D.int) none (some (m:Int))=(ts.take m).map D.int:=by
 unfold x9;rw [HT.D8,HT.F2,aa,Nat.min_eq_left hm,gF,bZ,List.map_take]
theorem JJ (b:Nat)(ts us:List Int):Po.gl b (ts++us)=Po.gl (Po.gl b ts) us:=by
 unfold Po.gl;rw [iy]
def i7:SpB:=.of 2 (α:=List Int×Int) (fun (ts,b) ds=>ds=[.lst (ts.map .int),.int b]/\0<b/\Lt2 9000000 b/\ts.length<=1000) (fun (ts,b) d=>∃ P B,d=pD P B/\Po.Fm P B/\(∀ k,P.getD k 0*b=ts.getD k 0*B)/\P.length<=ts.length)
def kN:TSd:=(iP [] (iZ (iH (dB bTuple bTuple.mono (iH (iT (i5 (dSl (iI 0) dNo (oC (iI 2)))) [4] (gNm 4) i9 (iL .FloorDiv (iI 4) (iI 3))) iJ)) (iH (iL .FloorDiv (iI 1) (iI 3)) iJ))))
def oY:TSd:=dSq (jl [] (i5 (dSl (iI 0) dNo (oC (iI 2)))) (gNm 4)
 (dSq (dIf [] (iQ (iR .Eq (iI 3) (dC (.int 1))))
 rR
 iW)
 (iO [] (gNm 3) (iK ja (iH (iI 3) (iH (iI 4) iJ))))))
 kN
def oZ:TSd:=dSq (iO [] (gNm 3) (iI 1))
 oY
def jO:TSd:=dSq (jq (kr (iQ (iR .Gt (iI 2) (dC (.int 0)))) (iQ (iR .Eq (dIx (iI 0) (iL .Sub (iI 2) (dC (.int 1)))) (dC (.int 0)))))
 (nM [] 2 .Sub (dC (.int 1))))
 oZ
def qO:TSd:=dSq (iO [] (gNm 2) (dB bLen bLen.mono (iH (iI 0) iJ)))
 jO
theorem nT:Does 5 qO i7:=by
 rintro ds Q hn ⟨⟨ts,b⟩,⟨rfl,hb,hl,hz⟩,q⟩;dsimp only at hb hl hz q;have bn:((b.natAbs:Nat):Int)=b:=by omega
 suffices h1:jO.run (tf Q) [.val (.lst (ts.map .int)),.val (.int b),.val (.int ts.length),.no,.no] by
  show jO.run (tf Q) [.val (.lst (ts.map .int)),.val (.int b),.val (.int ((ts.map D.int).length:Nat)),.no,.no];rw [aa];exact h1
 refine dSq.cut (fun s=>∃ m:Nat,s=[.val (.lst (ts.map .int)),.val (.int b),.val (.int m),.no,.no]/\m<=ts.length/\(∀ j,m<=j->ts.getD j 0=0)/\(m=0\/ts.getD (m-1) 0≠0)) ?_ ?_
 ·refine ⟨fun s=>∃ m:Nat,s=[.val (.lst (ts.map .int)),.val (.int b),.val (.int m),.no,.no]/\m<=ts.length/\∀ j,m<=j->ts.getD j 0=0,fun s=>match s with | [_,_,.val (.int m),_,_]=>m.toNat | _=>0,⟨ts.length,rfl,am _,fun j hj=>sS hj⟩,?_⟩;rintro _ ⟨m,rfl,hm,h0⟩;refine xJ (p:=(0:Int)<(m:Nat)) (fun c=>?_) (fun c=>?_)
  ·obtain ⟨k,rfl⟩:∃ k,m=k+1:=⟨m-1,by omega⟩;have ek:((k+1:Nat):Int)-1=(k:Int):=by omega
   show itD (ts.map D.int) (((k+1:Nat):Int)-1) _;rw [ek];refine ul (tI (by omega)) (xJ (p:=ts.getD k 0=0) (fun z=>?_) (fun z=>?_))
   ·refine ⟨⟨k,?_,by omega,fun j hj=>?_⟩,?_⟩
    ·show [_,_,SD.val (.int (((k+1:Nat):Int)-1)),_,_]=_;rw [ek]
    ·rcases cC hj with w | w
     ·rw [← w];exact z
     ·exact h0 j w
    ·show ((((k+1:Nat):Int)-1)).toNat<(((k+1:Nat):Int)).toNat;omega
   ·exact ⟨k+1,rfl,hm,h0,.inr z⟩
  ·exact ⟨m,rfl,hm,h0,.inl (by omega)⟩
 ·rintro _ ⟨m,rfl,hm,h0,hlast⟩;obtain ⟨fm,wr⟩:=Po.form hb hm h0 hlast;have tail:∀ g:Nat,g=Po.gl b.natAbs (ts.take m)->∀ o,kN.run (tf Q) [.val (.lst (ts.map .int)),.val (.int b),.val (.int m),.val (.int g),o]:=by
   rintro g hg o;rw [← hg] at fm wr;have g0:0<g:=by rw [hg];exact Po.Bv (by omega) _
   have gle:g<=b.natAbs:=by rw [hg];exact cR (by omega) (Po.xM _ _).1
   have cd:∀ x:Int,uZ x (g:Int):=fun x=>⟨by omega,9000000,hl.le (by rw [bj];exact gle),by decide⟩;have ec:=CS hm;refine ⟨(congrArg (fun l:List D=>l.length<=sizeLine) ec).mpr (by rw [aa,bf];exact vf (by omega)),mI (fun z=>z.fdiv (g:Int)) (ts.take m),mI.nil,fun i d ys hd _ hy=>?_,fun ys _ hy=>?_⟩
   ·have hd:(x9 (ts.map D.int) none (some (m:Int)))[i]? = some d:=hd;rw [ec] at hd;obtain ⟨z,hz,rfl⟩:=u7 hd;exact ⟨cd _,hy.snoc hz rfl⟩
   ·cases hy.all (by rw [ec,aa]);exact ⟨cd _,ur,q _ ⟨_,_,rfl,fm,wr,by rw [aa,bf];omega⟩⟩
  have ec:=CS hm;refine ⟨fun i s=>∃ o,s=[.val (.lst (ts.map .int)),.val (.int b),.val (.int m),.val (.int ((Po.gl b.natAbs ((ts.take m).take i):Nat):Int)),o],⟨.no,?_⟩,?_,?_⟩
  ·show [_,_,_,SD.val (.int b),_]=[_,_,_,SD.val (.int ((b.natAbs:Nat):Int)),_];rw [bn]
  ·rintro i d _ hd ⟨o,rfl⟩;have hd:(x9 (ts.map D.int) none (some (m:Int)))[i]? = some d:=hd;rw [ec] at hd;obtain ⟨hi,rfl⟩:=wp hd;refine xJ (p:=(((Po.gl b.natAbs ((ts.take m).take i):Nat):Int)=1)) (fun c=>?_) (fun c=>?_)
   ·refine tail _ ?_ _;have e:ts.take m=(ts.take m).take i++(ts.take m).drop i:=(List.take_append_drop i _).symm;have c':Po.gl b.natAbs ((ts.take m).take i)=1:=by omega
    rw [e,JJ,List.take_append_of_le_length (by rw [bf];omega),List.take_of_length_le (by rw [bf];omega),c',Po.JI]
   ·refine ⟨rfl,(_,_),rfl,?_⟩;rintro _ rfl;refine ⟨.val (.int ((ts.take m).getD i 0)),?_⟩;rw [tW hi,CH];rfl
  ·rintro _ ⟨o,hs⟩;rw [show (x9 (ts.map D.int) none (some (m:Int))).length=(ts.take m).length by rw [ec,aa],bM] at hs;subst hs;exact tail _ rfl _
end Dp
namespace Dp
open PySem L2
def nI (F:Nat->Int):Nat->List D->Prop:=fun i ys=>∃ rs:List Int,ys=rs.map D.int/\rs.length=i/\∀ k,k<i->rs.getD k 0=F k
theorem nI.nil {F:Nat->Int}:nI F 0 []:=⟨[],rfl,rfl,fun k hk=>absurd hk (cO _)⟩
theorem yP (rs:List Int)(z:Int)(i:Nat):(rs++[z]).getD i 0=if i=rs.length then z else rs.getD i 0:=by
 rw [ac,ac];by_cases c:i=rs.length
 ·rw [if_pos c,c];simp
 ·rw [if_neg c];rcases ao i rs.length with h | h
  ·rw [bx h]
  ·rw [br (by simp;omega),br h]
theorem nI.snoc {F:Nat->Int}{i:Nat}{ys:List D}{z:Int}(h:nI F i ys)(hz:z=F i):nI F (i+1) (ys++[.int z]):=by
 obtain ⟨rs,rfl,l,h⟩:=h;refine ⟨rs++[z],by simp,by rw [aD,l];rfl,fun k hk=>?_⟩;rw [yP,l];by_cases e:k=i
 ·rw [if_pos e,e];exact hz
 ·rw [if_neg e];exact h k (by omega)
def j4:SpB:=.of 2 (α:=List Int×Int×Nat×Nat×Nat×Nat) (fun (ts,c,n,M,C,Z) ds=>ds=[.tup (ts.map .int),.int c]/\ts.length=n+1/\n<=100/\(∀ i,Lt2 M (ts.getD i 0))/\Lt2 C c/\M<=1000000/\Lt2 Z (ts.getD n 0)/\Z<=9000000/\(C+1)*(n+1)<=400000/\ts.getD n 0≠0)
 (fun (ts,c,n,M,C,Z) d=>∃ rs:List Int,d = .lst (rs.map .int)/\rs.length=n+1/\∀ i,i<=n->rs.getD i 0=(ts.getD i 0*c^(n-i)).fdiv (ts.getD n 0))
def jP:TSd:=(iP [] (iT (jg (iI 0)) [3,4] (gTp [3,4]) i9 (iL .FloorDiv (iL .Mult (iI 4) (iK iM (iH (iI 1) (iH (iL .Sub (iI 2) (iI 3)) iJ)))) (dIx (iI 0) (iI 2)))))
def qP:TSd:=dSq (iO [] (gNm 2) (iL .Sub (dB bLen bLen.mono (iH (iI 0) iJ)) (dC (.int 1))))
 jP
theorem nV:Does 5 qP j4:=by
 rintro ds Q hn ⟨⟨ts,c,n,M,C,Z⟩,⟨rfl,ln,hn,hM,hC,M9,hZ,Z9,hz,hL⟩,q⟩;dsimp only at ln hn hM hC M9 hZ Z9 hz hL q;suffices h1:jP.run (tf Q) [.val (.tup (ts.map .int)),.val (.int c),.val (.int n),.no,.no] by
  show jP.run (tf Q) [.val (.tup (ts.map .int)),.val (.int c),.val (.int (((ts.map D.int).length:Int)-1)),.no,.no];rw [aa,ln,show ((n+1:Nat):Int)-1=(n:Int) by omega];exact h1
 have le:(t7 (ts.map D.int)).length=n+1:=by simp [t7,ln]
 refine ⟨(congrArg (· <= sizeLine) le).mpr (vf (by omega)),nI (fun k=>(ts.getD k 0*c^(n-k)).fdiv (ts.getD n 0)),nI.nil,fun i d ys hd _ hy=>?_,fun ys _ hy=>?_⟩
 ·obtain ⟨hi,rfl⟩:=tT hd;have hz2:(C+1)*(n-i+1)<=400000:=aH (ak _ (by omega)) hz;have hz3:C*(n-i)<=400000:=aH (cb (d9 _) (d9 _)) hz2;refine ⟨rfl,rfl,(c,n-i,C),⟨?_,hC,by omega,hz2⟩,?_⟩
  ·show [D.int c,.int ((n:Int)-(i:Int))]=[D.int c,.int ((n-i:Nat):Int)];rw [show (n:Int)-(i:Int)=((n-i:Nat):Int) by omega]
  ·rintro _ rfl;exact ⟨⟨M,C*(n-i)+1,hM i,Hv.tx hC (n-i),by omega⟩,ul (tI (by omega)) ⟨⟨hL,Z,hZ,by omega⟩,hy.snoc rfl⟩⟩
 ·have hy:nI _ (t7 (ts.map D.int)).length ys:=hy;rw [le] at hy;obtain ⟨rs,rfl,l,h⟩:=hy;exact q _ ⟨rs,rfl,l,fun i hi=>h i (by omega)⟩
def kO:SpB:=.of 3 (α:=List Int×Nat×Nat×Nat×(Nat->Int)) (fun (fs,k,s,A,g) ds=>ds=[.lst (fs.map .int),.int k,.int s]/\1<=k/\k<=100/\1<=s/\s<=100/\s<=fs.length/\A<=100000/\(∀ i,Lt2 A (fs.getD i 0))/\fs.getD 0 0=1/\g 0=1/\(∀ j,j<=s-1->Ca.pw g k j=fs.getD j 0))
 (fun (fs,k,s,A,g) d=>∃ rs:List Int,d = .lst (rs.map .int)/\rs.length=s/\(∀ j,j<s->rs.getD j 0=g j)/\(∀ j,j<s->Lt2 ((A+22)*j+1) (g j)))
def nX:TSd:=(iP [3] (iI 3))
def nY:TSd:=dSq (jl [] (kH (dC (.int 1)) (iI 2)) (gNm 4)
 (dSq (iO [] (gNm 5) (iT (kH (dC (.int 1)) (iL .Add (iI 4) (dC (.int 1)))) [6] (gNm 6) i9 (iL .Mult (iL .Mult (iL .Sub (iL .Mult (iI 6) (iL .Add (iI 1) (dC (.int 1)))) (iL .Mult (iI 4) (iI 1))) (dIx (iI 0) (iI 6))) (oQ 3 (iL .Sub (iI 4) (iI 6))))))
 (pW [] 3 (iL .FloorDiv (dB bSum bSum.mono (iH (iI 5) iJ)) (iL .Mult (iI 4) (iI 1))))))
 nX
def qh:TSd:=dSq (kY [] 3 (iY (iH (dC (.int 1)) iJ)))
 nY
theorem yt (rs:List Int)(z:Int):rs.map D.int++[D.int z]=(rs++[z]).map D.int:=by simp
theorem nh:Does 7 qh kO:=by
 rintro ds Q hn ⟨⟨fs,k,n,M,g⟩,⟨rfl,k1,k2,n1,n2,ln,M9,hM,f0,g0,hg⟩,q⟩;dsimp only at k1 k2 n1 n2 ln M9 hM f0 g0 hg q;have hst:∀ j,j<=n-1->_:=fun j hj=>Ca.step (a:=fun i=>fs.getD i 0) g0 f0 hg hj;have hlt:=Ca.F4 (A:=M) k1 k2 (show n-1<=100 by omega) g0 hM hst;have en:((n:Int)-1).toNat=n-1:=by omega
 refine ⟨Ba,⟨by omega,by omega,by omega,by omega⟩,fun i s=>∃ (o4 o5 o6:SD) (rs:List Int),s=[.val (.lst (fs.map .int)),.val (.int k),.val (.int n),.own (rs.map .int),o4,o5,o6]/\rs.length=i+1/\∀ j,j<i+1->rs.getD j 0=g j,⟨.no,.no,.no,[1],rfl,rfl,fun j hj=>?_⟩,?_,?_⟩
 ·rw [show j=0 by omega,g0];rfl
 ·rintro i d _ hd ⟨o4,o5,o6,rs,rfl,lr,hrs⟩;obtain ⟨hi,rfl⟩:=tK hd;have hi':i+1<=n-1:=by omega
  have e1:(1:Int)+(i:Int)=((i+1:Nat):Int):=by omega
  rw [e1];have c2:(i+1)*k<=100*100:=cb (by omega) (by omega);have lk:Lt2 7 ((k:Nat):Int):=by unfold Lt2;omega
  have lk1:Lt2 7 ((k:Int)+1):=by unfold Lt2;omega
  have lj:Lt2 7 ((i+1:Nat):Int):=by unfold Lt2;omega
  have lu:(ve 1 (((i+1:Nat):Int)+1-1).toNat).length=i+1:=by rw [tq];omega
  refine ⟨⟨by omega,by omega,by omega,by omega⟩,(congrArg (· <= sizeLine) lu).mpr (vf (by omega)),nI (fun j=>(((j+1:Nat):Int)*(k+1)-((i+1:Nat):Int)*k)*fs.getD (j+1) 0*g (i+1-(j+1))),nI.nil,fun m d ys hd _ hy=>?_,fun ys _ hy=>?_⟩
  ·obtain ⟨hm,rfl⟩:=tK hd;have hm:m<i+1:=by omega
   have e2:(1:Int)+(m:Int)=((m+1:Nat):Int):=by omega
   rw [e2];have lm:Lt2 7 ((m+1:Nat):Int):=by unfold Lt2;omega
   have l1:Lt2 15 (((m+1:Nat):Int)*(k+1)-((i+1:Nat):Int)*k):=(lm.mul lk1).sub (lj.mul lk);have l3:=hlt (i+1-(m+1)) (by omega);have m3:(M+22)*(i+1-(m+1))<=100022*100:=cb (by omega) (by omega);have ej:((i+1:Nat):Int)-((m+1:Nat):Int)=((i+1-(m+1):Nat):Int):=by omega
   refine ⟨⟨_,_,lm,lk1,by decide⟩,⟨_,_,lj,lk,by decide⟩,ul (tI (by omega)) ⟨⟨_,_,l1,hM (m+1),by omega⟩,uD (d:=.int (g (i+1-(m+1)))) ?_ ⟨⟨_,_,l1.mul (hM (m+1)),l3,by omega⟩,hy.snoc rfl⟩⟩⟩;rw [ej,← hrs (i+1-(m+1)) (by omega)];exact va (tI (by omega))
  ·have hy:nI _ (ve 1 (((i+1:Nat):Int)+1-1).toNat).length ys:=hy;rw [lu] at hy;obtain ⟨us,rfl,lu,hus⟩:=hy;have es:us.sum=((i+1:Nat):Int)*k*g (i+1):=by
    rw [Ca.IC,lu,← hst (i+1) hi'];exact Cv.sW fun j hj=>hus j hj
   have jk:((i+1:Nat):Int)*k≠0:=by
    have:0<(i+1)*k:=g9 (by omega) k1;have e:((i+1:Nat):Int)*k=(((i+1)*k:Nat):Int):=by push_cast;rfl
    rw [e];omega
   refine ⟨us,rfl,⟨_,_,lj,lk,by decide⟩,⟨jk,_,lj.mul lk,by decide⟩,(by rw [aa,sizeLine_eq];omega),?_⟩;refine ⟨_,_,_,rs++[_],congrArg (fun l=>[SD.val (.lst (fs.map .int)),.val (.int k),.val (.int n),.own l,_,_,_]) (yt _ _),by rw [aD,lr];rfl,fun j hj=>?_⟩;rw [yP,lr];by_cases e:j=i+1
   ·rw [if_pos e,e,es,bt,dN _ jk]
   ·rw [if_neg e];exact hrs j (by omega)
 ·rintro _ ⟨o4,o5,o6,rs,rfl,lr,hrs⟩;rw [tq,en] at lr hrs;exact q _ ⟨rs,rfl,by omega,fun j hj=>hrs j (by omega),fun j hj=>hlt j (by omega)⟩
end Dp
namespace Dp
open PySem L2
theorem GV {l x:Int}{n:Nat}(h0:l≠0)(h:l*x.fdiv l=x)(hx:Lt2 n x):Lt2 n (x.fdiv l):=by
 refine hx.le ?_;generalize x.fdiv l=y at h;rw [← h,aR];exact aQ _ (by omega)
theorem D9 {rs:List Int}{n j:Nat}(h:rs.length=n+1)(hj:j<=n):rs.reverse.getD j 0=rs.getD (n-j) 0:=by
 rw [ac,bX (by omega),ac,h];congr 2
def nZ:TSd:=(iP [] (iK i7 (iH (iL .Add (iY (iH (dC (.int 0)) iJ)) (iI 7)) (iH (iK iM (iH (iI 4) (iH (iL .Sub (iI 1) (dC (.int 1))) iJ))) iJ))))
def n5:TSd:=dSq (iO [] (gNm 7) (iT (kH (dC (.int 1)) (iL .Add (iI 1) (dC (.int 1)))) [8] (gNm 8) i9 (iL .Mult (dIx (iI 6) (iL .Sub (iI 1) (iI 8))) (iK iM (iH (iI 4) (iH (iL .Sub (iI 8) (dC (.int 1))) iJ))))))
 nZ
def jD:TSd:=dSq (iO [] (gNm 6) (iK kO (iH (iI 5) (iH (iI 3) (iH (iI 1) iJ)))))
 n5
def jE:TSd:=dSq (iO [] (gNm 5) (qK (iK j4 (iH (dIx (iI 0) (dC (.int 0))) (iH (iI 4) iJ)))))
 jD
def jF:TSd:=dSq (iO [] (gNm 4) (iL .Mult (iL .Mult (dB bAbs bAbs.mono (iH (dIx (dIx (iI 0) (dC (.int 0))) (iI 2)) iJ)) (iI 3)) (iI 3)))
 jE
def jG:TSd:=dSq (iO [] (gNm 3) (iL .FloorDiv (iI 2) (iI 1)))
 jF
def qj:TSd:=dSq (iO [] (gNm 2) (iK i8 (iH (iI 0) iJ)))
 jG
end Dp
namespace Dp
open PySem L2
theorem ED (P:List Int)(B:Int):D.dps [.tup (P.map D.int),.int B]<=60:=by
 have h:∀ P:List Int,D.dps (P.map D.int)<=1:=by
  intro P;induction P with
  | nil=>decide
  | cons a l ih =>
   show max (D.dp (.int a)) (D.dps (l.map D.int))<=1;have:D.dp (.int a)<=1:=aC _;omega
 show max (D.dps (P.map D.int)+1) (D.dps [.int B])<=60;have e:D.dps [.int B]<=1:=h [B];have:=h P;omega
theorem xB (P:List Int)(B:Int):D.pls [.tup (P.map D.int),.int B]=true:=by
 show (D.pls (P.map D.int) && D.pls [.int B])=true;rw [D.pls_ints];rfl
theorem FqD.same {n b n' b':Nat}{d d':D}{r:Rat}(h:FqD n b d r)(h':FqD n' b' d' r):d=d'/\∃ t u:Int,d=fD t u:=by
 obtain ⟨t,u,rfl,u0,g,lt,lu,e⟩:=h;obtain ⟨t',u',rfl,u0',g',lt',lu',e'⟩:=h';have c:=(Qp.tR (by omega) (by omega)).mp (e'.symm.trans e);obtain ⟨y1,y2⟩:=Fr.uniq (t:=t) (b:=u) (by omega) u0' g' (by rw [c]);obtain ⟨w1,w2⟩:=Fr.uniq (t:=t) (b:=u) (by omega) u0 g rfl;rw [← y1,← y2,w1,w2];exact ⟨rfl,_,_,rfl⟩
end Dp
namespace Dp
open PySem L2
theorem ES {x:Int}(h:(x.natAbs:Int)<(10:Int)^40):Lt2 133 x:=by
 unfold Lt2;have e:(10:Int)^40=10000000000000000000000000000000000000000:=by decide
 have e2:(2:Nat)^133=10889035741470030830827987437816582766592:=by decide
 rw [e] at h;rw [e2];omega
def ku:SpB:=.of 1 (α:=List Int×Int) (fun (P,B) ds=>ds=[pD P B]/\0<B/\P.length<=1000) (fun (P,B) d=>∃ c:Bool,d = .bl c/\(c=true->Lt2 133 B/\∀ i,Lt2 133 (P.getD i 0)))
def o9:TSd:=(iP [] (qI (iR .Lt (dIx (iI 0) (dC (.int 1))) (iL .Pow (dC (.int 10)) (dC (.int 40)))) (dB bAll bAll.mono (iH (iT (i5 (dIx (iI 0) (dC (.int 0)))) [1] (gNm 1) i9 (iR .Lt (dB bAbs bAbs.mono (iH (iI 1) iJ)) (iL .Pow (dC (.int 10)) (dC (.int 40))))) iJ))))
theorem mE:Does 2 o9 ku:=by
 rintro ds Q hn ⟨⟨ts,b⟩,⟨rfl,b0,ll⟩,q⟩;dsimp only at b0 ll q;have cp:FQ 10 40:=⟨by decide,by decide,by decide⟩;refine ⟨cp,xJ (p:=b<(10:Int)^40) (fun c=>?_) (fun c=>q _ ⟨false,rfl,fun z=>by cases z⟩)⟩;refine ⟨(congrArg (· <= sizeLine) (aa _)).mpr (vf (by omega)),fun i ys=>ys=((ts.take i).map fun x=>decide ((x.natAbs:Int)<(10:Int)^40)).map D.bl,rfl,fun i d ys hd _ hy=>?_,fun ys _ hy=>⟨_,hy,q _ ⟨_,rfl,fun z=>⟨ES (by rw [Int.natAbs_of_nonneg (gV b0)];exact c),fun i=>?_⟩⟩⟩⟩
 ·obtain ⟨hj,rfl⟩:=wp hd;refine ⟨cp,?_⟩;show ys++[D.bl (decide ((if ts.getD i 0<0 then -(ts.getD i 0) else ts.getD i 0)<(10:Int)^40))]=_;rw [uG,tW hj,bD,bD,hy];rfl
 ·rw [aa,bM] at z;rcases ao i ts.length with x | x
  ·rw [cB] at z;have:=z (decide (((ts.getD i 0).natAbs:Int)<(10:Int)^40)) (dM.mpr ⟨_,uT x,rfl⟩);rw [id_eq,decide_eq_true_eq] at this;exact ES this
  ·rw [sS x];exact wC _
end Dp
namespace Dp
open PySem L2
theorem FI {α:Type}{xs:List α}{j n:Nat}{v:α}(h:xs[n-j]? = some v)(e:xs.length=n)(hj:1<=j)(hn:j<=n):xZ xs (-(j:Int))=some v:=by
 have e:AX xs.length (-(j:Int))=some (n-j):=by
  unfold AX;rw [e,if_neg (by omega),if_pos (by omega)];congr 1;omega
 unfold xZ;rw [e];exact h
theorem JX {n:Nat}{P:List Int}{B:Int}(z:Pc.Pz n 1 P B):B=1:=by
 have a:=z.fm.pos;have b:B.natAbs<2:=z.bot;omega
end Dp
namespace Dp
open PySem L2
theorem KN {a b c:D}{i:Int}(h0:0<=i)(h1:i<3){Q:D->Prop}(qa:Q a)(qb:Q b)(qc:Q c):itD [a,b,c] i Q:=by
 rcases (by omega:i=0\/i=1\/i=2) with rfl | rfl | rfl
 ·exact qa
 ·exact qb
 ·exact qc
theorem uF {P:List Int}{B:Int}{n:Nat}(f:Po.Fm P B)(l:P.length=n+1):P.getD n 0≠0:=by
 rcases f.last with e | e
 ·rw [e] at l;simp at l
 ·rwa [l] at e
end Dp
namespace Dp
open PySem L2
def jn:SpB:=.of 2 (α:=Int×Int) (fun x ds=>ds=[.int x.1,.int x.2]/\x.2≠0/\Lt2 9000000 x.2) (fun x d=>d=fD (Fr.top x.1 x.2) (Fr.bot x.1 x.2))
def pd:TSd:=(iP [] (iZ (iH (iL .FloorDiv (iI 0) (iI 2)) (iH (iL .FloorDiv (iI 1) (iI 2)) iJ))))
def pe:TSd:=dSq (dIf [] (iQ (iR .Lt (iI 1) (dC (.int 0))))
 (iO [] (gNm 2) (mr (iI 2)))
 iW)
 pd
def qQ:TSd:=dSq (iO [] (gNm 2) (iK ja (iH (iI 0) (iH (iI 1) iJ))))
 pe
theorem n6:Does 3 qQ jn:=by
 rintro ds Q hn ⟨⟨a,b⟩,⟨rfl,h0,hl⟩,q⟩;refine ⟨rfl,(a,b),rfl,?_⟩;rintro _ rfl;have fin:∀ p:Int,p=Fr.part a b->uZ a p/\uZ b p/\2<=sizeLine/\Q (.tup [.int (a.fdiv p),.int (b.fdiv p)]):=by
  rintro p rfl;have c:∀ x,uZ x (Fr.part a b):=fun x=>⟨Fr.Cj h0,9000000,hl.le (Fr.Ck h0),by decide⟩;exact ⟨c _,c _,ur,q _ rfl⟩
 refine xJ (p:=b<0) (fun c=>?_) (fun c=>?_)
 ·exact fin _ (by unfold Fr.part;rw [if_pos c])
 ·exact fin _ (by unfold Fr.part;rw [if_neg c])
theorem FqD.ofN {t u:Int}{n b:Nat}(u0:u≠0)(lt:Lt2 n t)(lu:Lt2 b u):FqD n b (fD (Fr.top t u) (Fr.bot t u)) ((t:Rat) / (u:Rat)):=by
 obtain ⟨l1,l2,l3⟩:=Fr.low (t:=t) (b:=u) u0;obtain ⟨m1,m2⟩:=Fr.yM (t:=t) (b:=u) u0;exact ⟨_,_,rfl,l1,l3,lt.le m1,lu.le m2,(Qp.tR u0 (by omega)).mpr l2.symm⟩
def jh:SpB:=.of 2 (α:=D×D×Rat×Rat×Nat×Nat×Nat×Nat) (fun (d1,d2,r1,r2,n1,b1,n2,b2) ds=>ds=[d1,d2]/\FqD n1 b1 d1 r1/\FqD n2 b2 d2 r2/\r2≠0/\b1+n2<=9000000/\n1+b2<=1000000)
 (fun (d1,d2,r1,r2,n1,b1,n2,b2) d=>FqD (n1+b2) (b1+n2) d (r1 / r2))
def rA:TSd:=(iP [] (iK jn (iH (iL .Mult (dIx (iI 0) (dC (.int 0))) (dIx (iI 1) (dC (.int 1)))) (iH (iL .Mult (dIx (iI 0) (dC (.int 1))) (dIx (iI 1) (dC (.int 0)))) iJ))))
theorem pg:Does 2 rA jh:=by
 rintro ds Q hn ⟨⟨d1,d2,r1,r2,n1,b1,n2,b2⟩,⟨rfl,f1,f2,z2,hb,hn⟩,q⟩;dsimp only at f1 f2 z2 hb hn q;obtain ⟨t1,u1,rfl,p1,g1,lt1,lu1,e1⟩:=f1;obtain ⟨t2,u2,rfl,p2,g2,lt2,lu2,e2⟩:=f2;have t20:t2≠0:=(Fq.ne (p:=0) p2 e2).mp z2;refine ⟨⟨_,_,lt1,lu2,by omega⟩,⟨_,_,lu1,lt2,by omega⟩,rfl,(t1*u2,u1*t2),⟨rfl,bT (by omega) t20,(lu1.mul lt2).mono (by omega)⟩,?_⟩;rintro _ rfl;have:=FqD.ofN (t:=t1*u2) (u:=u1*t2) (bT (by omega) t20) (lt1.mul lu2) (lu1.mul lt2);refine q _ ?_;rw [e1,e2];have e:((t1*u2:Int):Rat) / ((u1*t2:Int):Rat)=(t1:Rat) / (u1:Rat) / ((t2:Rat) / (u2:Rat)):=by
  have h1:(u1:Rat)≠0:=by exact_mod_cast aA p1
  have h2:(u2:Rat)≠0:=by exact_mod_cast aA p2
  have h3:(t2:Rat)≠0:=by exact_mod_cast t20
  rw [aB,aB];grind
 rw [← e];exact this
def iX:SpB:=.of 2 (α:=List Int×Int×Nat×Nat×Nat) (fun (P,B,k,n,b) ds=>ds=[pD P B,.int k]/\Pc.Pz n b P B/\b<=9000000) (fun (P,B,k,n,b) d=>FqD n b d (Qp.q P B k))
def mF:TSd:=(iP [] (iZ (iH (dC (.int 0)) (iH (dC (.int 1)) iJ))))
def mH:TSd:=dSq (dIf [] (iQ (jM .LtE .Lt (dC (.int 0)) (iI 1) (dB bLen bLen.mono (iH (iI 2) iJ))))
 (iP [] (iK jn (iH (dIx (iI 2) (iI 1)) (iH (iI 3) iJ))))
 iW)
 mF
def n8:TSd:=dSq (iO [] (gTp [2,3]) (iI 0))
 mH
theorem lI:Does 4 n8 iX:=by
 rintro ds Q hn ⟨⟨P,B,k,n,b⟩,⟨rfl,z1,hb⟩,q⟩;dsimp only at z1 hb q;have p1:=z1.fm.pos;have out:P.length<=k->FqD n b (fD 0 1) (Qp.q P B k):=fun c=>by
  rw [Qp.tU c];have:=ua (n:=n) (t:=0) (wC _);refine this.mono (am _) ?_;cases b with
  | zero =>
   have:B.natAbs<1:=z1.bot;omega
  | succ b=>omega
 refine ⟨rfl,?_⟩;refine xJ (p:=((k:Nat):Int)<((P.map D.int).length:Nat)) (fun c=>?_) (fun c=>?_)
 ·rw [aa] at c;refine ul (tI (by omega)) ⟨rfl,(P.getD k 0,B),⟨rfl,by show B≠0;omega,z1.bot.mono hb⟩,?_⟩;rintro _ rfl;exact q _ (FqD.of p1 (z1.tops k) z1.bot)
 ·rw [aa] at c;exact ⟨ur,q _ (out (by omega))⟩
def m4:SpB:=.of 1 (α:=List Int×Int×Nat×Nat×Nat) (fun (P,B,k,n,b) ds=>ds=[pD P B]/\P.length=k+1/\Pc.Pz n b P B/\b<=9000000) (fun (P,B,k,n,b) d=>FqD n b d (Qp.q P B k))
def sE:TSd:=(iP [] (iK iX (iH (iI 0) (iH (iK i8 (iH (iI 0) iJ)) iJ))))
theorem rB:Does 1 sE m4:=by
 rintro ds Q hn ⟨⟨P,B,k,n,b⟩,⟨rfl,l,z1,hb⟩,q⟩;dsimp only at l z1 hb q;refine ⟨rfl,(P,B),rfl,?_⟩;rintro _ rfl;refine ⟨rfl,(P,B,k,n,b),⟨?_,z1,hb⟩,q⟩;show [pD P B,.int ((P.length:Int)-1)]=[pD P B,.int (k:Int)];rw [l,show ((k+1:Nat):Int)-1=(k:Int) by omega]
end Dp
namespace Dp
open PySem L2
theorem uX {a b:Int}(h:a≠0):0<Fr.cp a b:=by
 unfold Fr.cp;have:0<Int.gcd a b:=Int.gcd_pos_of_ne_zero_left b h;omega
theorem vI (a b:Int):Fr.cp a b∣a/\Fr.cp a b∣b:=by
 unfold Fr.cp;exact ⟨Int.gcd_dvd_left ..,iG ..⟩
theorem tE {b c:Int}(hc:0<c)(hb:0<b)(d:c∣b):b=c*b.fdiv c/\0<b.fdiv c/\(b.fdiv c).natAbs<=b.natAbs:=by
 obtain ⟨q,rfl⟩:=d;rw [cT _ (by omega)];have q0:0<q:=by
  rcases eF q 0 with z | z | z
  ·have:=dW hc z;omega
  ·rw [z,bw] at hb;omega
  ·exact z
 refine ⟨rfl,q0,?_⟩;rw [aR];exact aQ _ (by omega)
theorem Fb {m x:Int}(h:0<m):m∣x*m.fdiv (Fr.cp m x):=by
 have g0:=uX (a:=m) (b:=x) (by omega);obtain ⟨g1,y,hy⟩:=vI m x;obtain ⟨e,_,_⟩:=tE g0 h g1;generalize m.fdiv (Fr.cp m x)=q at *;generalize Fr.cp m x=g at *;refine ⟨y,?_⟩;rw [hy,e];grind
end Dp
namespace Dp
open PySem L2
def Ir (W:Nat->Int)(v:Nat)(c:Int):Nat->Int:=fun j=>W j+(if v<=j then c*Pc.d0 (j-v) else 0)
theorem DM {W:Nat->Int}{v:Nat}{c:Int}(h:W v=0):Ir W v c v=c:=by
 unfold Ir Pc.d0;rw [h,if_pos (am _),if_pos (cD _)];omega
theorem yK {W:Nat->Int}{v j:Nat}{c:Int}(h:j≠v):Ir W v c j=W j:=by
 unfold Ir Pc.d0;by_cases z:v<=j
 ·rw [if_pos z,if_neg (by omega)];omega
 ·rw [if_neg z];omega
theorem JP (W g:Nat->Int)(v:Nat)(c:Int)(k:Nat):Cv.cv (Ir W v c) g k=Cv.cv W g k+(if v<=k then c*g (k-v) else 0):=by
 unfold Ir;rw [Pc.AK,Pc.AH,Pc.xP]
def qT:TSd:=(iP [2,4] (iZ (iH (qK (iI 4)) (iH (iI 2) iJ))))
def kz:TSd:=dSq (jq (iQ (iR .Gt (me 2) (iI 3)))
 (dSq (pX 5 2)
 (dSq (pW [] 4 (iI 5))
 (jl [] (ms (iI 3)) (gNm 6)
 (mh [] 2 (iL .Add (iL .Sub (me 2) (iI 3)) (iI 6)) .Sub (iL .Mult (iI 5) (dIx (iI 1) (iI 6))))))))
 qT
def qU:TSd:=dSq (kY [] 4 (iY iJ))
 kz
def rX:TSd:=dSq (pY [] 2 3 (jN (iI 0)) (iL .Sub (dB bLen bLen.mono (iH (iI 1) iJ)) (dC (.int 1))))
 qU
theorem GX {l:List Int}{k:Nat}(h:k<l.length-1):l.dropLast.getD k 0=l.getD k 0:=by
 rw [ac,ac,e7,fB,if_pos h]
theorem D3 {l:List Int}{j k:Nat}{z:Int}(h:j<l.length):(l.set j z).getD k 0=if k=j then z else l.getD k 0:=by
 rw [ac,ac,aN];by_cases c:j=k
 ·subst c;rw [if_pos rfl,if_pos h,if_pos rfl];rfl
 ·rw [if_neg c,if_neg (Ne.symm c)]
theorem zN {l:List D}{n:Nat}{d:D}{F:D->Prop}(h:l[n]? = some d)(q:F d):(match l[n]? with | some x=>F x | none=>False):=by
 rw [h];exact q
end Dp
namespace Dg
open Cv
theorem M0 (f g:Nat->Int)(e:Int)(k:Nat):cv f g k*e=sm (fun j=>f j*g (k-j)*e) (k+1):=(uy _ _ _).symm
theorem turn {c ov un B U Gs C:Int}{s n t:Nat}{G b R L:Nat->Int}(hb:∀ j,j<=s->b j*Gs=G j*c^(s-j))(hG:∀ j,s<j->G j=0)(hb0:∀ j,s<j->b j=0)(hl:Gs*ov=un*U)(u0:0<un)(ht:s*(t+1)<=n)
  (hR:∀ k,R k*(B*un^(t+1)*c^(n-s*(t+1)))=L k*c^k*ov^(t+1)*C) (k:Nat):cv R G k*(B*un^t*c^(n-s*t))=cv L b k*(c^k*ov^t*(C*U)):=by
 have st:s*(t+1)=s*t+s:=bJ s t;have ec:c^(n-s*t)=c^(n-s*(t+1))*c^s:=by
  rw [← cQ];congr 1;omega
 have key:cv R G k*(B*un^(t+1)*c^(n-s*(t+1))*c^s)=cv L b k*(c^k*ov^(t+1)*C*Gs):=by
  rw [M0,M0];refine sW fun j hj=>?_;rcases ao s (k-j) with z | z
  ·rw [hG _ z,hb0 _ z];simp
  ·have e1:=hR j;have e2:=hb (k-j) z;have e3:c^s=c^(s-(k-j))*c^(k-j):=by
    rw [← cQ];congr 1;omega
   have e4:c^k=c^j*c^(k-j):=by
    rw [← cQ];congr 1;omega
   rw [e3,e4];generalize c^(s-(k-j))=x at *;generalize c^(k-j)=y at *;generalize B*un^(t+1)*c^(n-s*(t+1))=w at *;generalize ov^(t+1)=v at *;generalize c^j=cj at *
   calc R j*G (k-j)*(w*(x*y))=(R j*w)*(G (k-j)*x)*y:=by grind
    _=L j*b (k-j)*(cj*y*v*C*Gs):=by rw [e1,← e2];grind
 refine aJ (aA u0) ?_
 calc cv R G k*(B*un^t*c^(n-s*t))*un=cv R G k*(B*un^(t+1)*c^(n-s*(t+1))*c^s):=by rw [ec,aI];grind
  _=cv L b k*(c^k*ov^(t+1)*C*Gs):=key
  _=cv L b k*(c^k*ov^t*(C*U))*un:=by
   rw [aI];have:cv L b k*(c^k*(ov^t*ov)*C*Gs)=cv L b k*(c^k*ov^t*C)*(Gs*ov):=by grind
   rw [this,hl];grind
theorem Kd {E C U p2 X Y w:Int}(h:X*E=Y*(w*(C*U))){p D:Int}(hp:p*E=D*w*p2):(X*p2+p*(C*U))*E=(D+Y)*w*(C*U*p2):=by
 calc (X*p2+p*(C*U))*E=(X*E)*p2+(p*E)*(C*U):=by grind
  _=(D+Y)*w*(C*U*p2):=by rw [h,hp];grind
end Dg
namespace Dp
open PySem L2
theorem uu {z:Int}{M:Nat}(h:Lt2 M z){k m:Nat}(hk:k<=m):Lt2 (M*m+1) (z^k):=(Hv.tx h k).mono (hJ (ak _ hk) 1)
end Dp
namespace Dp
open PySem L2
theorem uU (ts:List Int):(t7 (ts.map D.int)).length=ts.length:=by simp [t7]
end Dp
namespace Dp
open PySem L2
theorem FG {b r:Int}(hb:0<b)(hr:0<r):0<b*r.fdiv (Fr.cp b r)/\r∣b*r.fdiv (Fr.cp b r):=by
 have g0:=uX (a:=b) (b:=r) (by omega);obtain ⟨g1,g2⟩:=vI b r;obtain ⟨e,q0,_⟩:=tE g0 hr g2;refine ⟨az hb q0,?_⟩;obtain ⟨c,hc⟩:=g1;refine ⟨c,?_⟩;generalize r.fdiv (Fr.cp b r)=q at *;generalize Fr.cp b r=g at *;subst hc e;grind
abbrev FS (fs:List (Int×Int)):List D:=fs.map fun f=>fD f.1 f.2
theorem zO {fs:List (Int×Int)}{i:Nat}{d:D}(h:(FS fs)[i]? = some d):∃ f,fs[i]? = some f/\d=fD f.1 f.2:=by
 rw [aO] at h;obtain ⟨p,hp,rfl⟩:=ab.mp h;exact ⟨p,hp,rfl⟩
end Dp
namespace Dp
open PySem L2
def Sq (x:D)(A:List Int):Prop:=x = .lst (A.map .int)\/x = .tup (A.map .int)
theorem Sq.it {x:D}{A:List Int}(h:Sq x A):∀ R:List D->Prop,R (A.map .int)->itemsD x R:=fun R r=>by
 rcases h with rfl | rfl
 ·exact r
 ·exact r
def ji:SpB:=.of 2 (α:=D×D×List Int×List Int) (fun (x,y,A,B) ds=>ds=[x,y]/\Sq x A/\Sq y B/\A.length<=1000/\B.length<=1000)
 (fun (x,y,A,B) d=>∃ rs:List Int,d = .lst (rs.map .int)/\rs.length=max A.length B.length/\∀ k,rs.getD k 0=A.getD k 0+B.getD k 0)
def kP:TSd:=(iP [4] (iI 4))
def kQ:TSd:=dSq (jl [] (jg (iI 3)) (gTp [5,6])
 (mh [] 4 (iI 5) .Add (iI 6)))
 kP
def iU:TSd:=dSq (kY [] 4 (jN (iI 2)))
 kQ
def mJ:TSd:=dSq (iO [] (gTp [2,3]) (qJ (iQ (iR .GtE (dB bLen bLen.mono (iH (iI 0) iJ)) (dB bLen bLen.mono (iH (iI 1) iJ)))) (iZ (iH (iI 0) (iH (iI 1) iJ))) (iZ (iH (iI 1) (iH (iI 0) iJ)))))
 iU
theorem Hn {s0 s1:SD}{x y:D}{L S:List Int}{Q:D->Prop}(hx:Sq x L)(hy:Sq y S)(hl:S.length<=L.length)(q:∀ rs:List Int,rs.length=L.length->(∀ k,rs.getD k 0=L.getD k 0+S.getD k 0)->Q (.lst (rs.map .int))) :
  iU.run (tf Q) [s0,s1,.val x,.val y,.no,.no,.no]:=by
 refine hx.it _ (hy.it _ ⟨fun i s=>∃ (o5 o6:SD) (rs:List Int),s=[s0,s1,.val x,.val y,.own (rs.map .int),o5,o6]/\rs.length=L.length/\∀ k,rs.getD k 0=L.getD k 0+(if k<i then S.getD k 0 else 0),⟨.no,.no,L,rfl,rfl,fun k=>by rw [if_neg (by omega),cq]⟩,?_,?_⟩)
 ·rintro i d _ hd ⟨o5,o6,rs,rfl,lr,hr⟩;obtain ⟨hi,rfl⟩:=tT hd;refine ⟨rfl,by show (0:Int)<=((i:Nat):Int);omega,?_⟩;refine zN (d:=.int (rs.getD i 0)) (tI (ts:=rs) (i:=i) (by omega)) ⟨.val (.int (i:Nat)),.val (.int (S.getD i 0)),rs.set i (rs.getD i 0+S.getD i 0),?_,by rw [bu,lr],fun k=>?_⟩
  ·show [s0,s1,.val x,.val y,.own ((rs.map D.int).set i (.int (rs.getD i 0+S.getD i 0))),.val (.int (i:Nat)),.val (.int (S.getD i 0))]=_;rw [map_set]
  ·rw [D3 (by omega)];by_cases e:k=i
   ·rw [if_pos e,e,hr i,if_neg (by omega),if_pos (by omega)];omega
   ·rw [if_neg e,hr k];by_cases c:k<i
    ·rw [if_pos c,if_pos (by omega)]
    ·rw [if_neg c,if_neg (by omega)]
 ·rintro _ ⟨o5,o6,rs,rfl,lr,hr⟩;refine q rs lr fun k=>?_;have h:=hr k;rw [uU] at h;rw [h];by_cases c:k<S.length
  ·rw [if_pos c]
  ·rw [if_neg c,sS (fs:=S) (by omega)]
theorem kA:Does 7 mJ ji:=by
 rintro ds Q hn ⟨⟨x,y,A,B⟩,⟨rfl,hx,hy,la,lb⟩,q⟩;dsimp only at hx hy la lb q;have g1:B.length<=A.length->iU.run (tf Q) [.val x,.val y,.val x,.val y,.no,.no,.no]:=fun c=>Hn hx hy c fun rs lr hr=>q _ ⟨rs,rfl,by rw [lr];omega,hr⟩;have g2:A.length<=B.length->iU.run (tf Q) [.val x,.val y,.val y,.val x,.no,.no,.no]:=fun c=>Hn hy hx c fun rs lr hr=>q _ ⟨rs,rfl,by rw [lr];omega,fun k=>by rw [hr k];omega⟩;have key:(if decide ((((B.map D.int).length:Nat):Int)<=(((A.map D.int).length:Nat):Int))=true then (2<=sizeLine/\2=2/\iU.run (tf Q) [.val x,.val y,.val x,.val y,.no,.no,.no]) else (2<=sizeLine/\2=2/\iU.run (tf Q) [.val x,.val y,.val y,.val x,.no,.no,.no])):=by
  refine xJ (fun c=>⟨ur,rfl,g1 ?_⟩) (fun c=>⟨ur,rfl,g2 ?_⟩)
  ·rw [aa,aa] at c;omega
  ·rw [aa,aa] at c;omega
 rcases hx with rfl | rfl <;> rcases hy with rfl | rfl <;> exact key
def jx:SpB:=.of 2 (α:=D×D×List Int×List Int×Nat×Nat) (fun (x,y,A,B,n,m) ds=>ds=[x,y]/\Sq x A/\Sq y B/\A.length<=450/\B.length<=450/\(∀ i,Lt2 n (A.getD i 0))/\(∀ i,Lt2 m (B.getD i 0))/\n+m<=100000000)
 (fun (x,y,A,B,n,m) d=>∃ rs:List Int,d = .lst (rs.map .int)/\rs.length<=A.length+B.length/\∀ k,rs.getD k 0=Cv.cv (Cv.fn A) (Cv.fn B) k)
def kg:TSd:=(iP [2] (iI 2))
def jd:TSd:=dSq (jl [] (jg (iI 0)) (gTp [3,4])
 (jl [] (jg (iI 1)) (gTp [5,6])
 (mh [] 2 (iL .Add (iI 3) (iI 5)) .Add (iL .Mult (iI 4) (iI 6)))))
 kg
def kh:TSd:=dSq (kY [] 2 (iL .Mult (iY (iH (dC (.int 0)) iJ)) (iL .Sub (iL .Add (dB bLen bLen.mono (iH (iI 0) iJ)) (dB bLen bLen.mono (iH (iI 1) iJ))) (dC (.int 1)))))
 jd
def kR:TSd:=dSq (dIf [] (kG (jz (jZ (iI 0))) (jz (jZ (iI 1))))
 (iP [] (iY iJ))
 iW)
 kh
theorem Ke {x y:D}{A B:List Int}{n m:Nat}{Q:D->Prop}(hx:Sq x A)(hy:Sq y B)(a0:0<A.length)(b0:0<B.length)(hA:∀ i,Lt2 n (A.getD i 0))(hB:∀ i,Lt2 m (B.getD i 0))(hnm:n+m<=100000000)(q:∀ rs:List Int,rs.length<=A.length+B.length->(∀ k,rs.getD k 0=Cv.cv (Cv.fn A) (Cv.fn B) k)->Q (.lst (rs.map .int))) :
  jd.run (tf Q) [.val x,.val y,.own ((List.replicate (A.length+B.length-1) (0:Int)).map .int),.no,.no,.no,.no]:=by
 refine hx.it _ ⟨fun i s=>∃ (rs:List Int) (o3 o4 o5 o6:SD),s=[.val x,.val y,.own (rs.map .int),o3,o4,o5,o6]/\rs.length=A.length+B.length-1/\∀ k,rs.getD k 0=Cv.tm (Cv.fn A) (Cv.fn B) i k,⟨_,_,_,_,_,rfl,bv,fun k=>xy _ _⟩,?_,?_⟩
 ·rintro i d _ hd ⟨rs,o3,o4,o5,o6,rfl,lr,hr⟩;obtain ⟨hi,rfl⟩:=tT hd;refine ⟨rfl,hy.it _ ⟨fun k s=>∃ (rs:List Int) (o5 o6:SD),s=[.val x,.val y,.own (rs.map .int),.val (.int (i:Nat)),.val (.int (A.getD i 0)),o5,o6]/\rs.length=A.length+B.length-1/\∀ m,rs.getD m 0=Cv.tm (Cv.fn A) (Cv.fn B) i m+(if i<=m/\m-i<k then Cv.fn A i*Cv.fn B (m-i) else 0),⟨rs,_,_,rfl,lr,fun m=>by rw [hr m,if_neg (by omega),cq]⟩,?_,?_⟩⟩
  ·rintro k d _ hd ⟨rs',o5',o6',rfl,lr',hr4⟩;obtain ⟨hk,rfl⟩:=tT hd;have hiF:i+k<rs'.length:=by omega
   refine ⟨rfl,by show (0:Int)<=(i:Int)+(k:Int);omega,?_⟩;refine zN (d:=.int (rs'.getD (i+k) 0)) (tI (ts:=rs') (i:=i+k) hiF) ⟨⟨n,m,hA i,hB k,hnm⟩,rs'.set (i+k) (rs'.getD (i+k) 0+A.getD i 0*B.getD k 0),.val (.int (k:Nat)),.val (.int (B.getD k 0)),?_,by rw [bu];exact lr',fun m=>?_⟩
   ·show [SD.val x,.val y,.own ((rs'.map D.int).set (i+k) (.int (rs'.getD (i+k) 0+A.getD i 0*B.getD k 0))),.val (.int (i:Nat)),.val (.int (A.getD i 0)),.val (.int (k:Nat)),.val (.int (B.getD k 0))]=_;rw [map_set]
   ·rw [vM hiF];by_cases e:m=i+k
    ·subst e;rw [if_pos rfl,hr4,if_neg (by omega),if_pos ⟨by omega,by omega⟩,show i+k-i=k by omega,cq];rfl
    ·rw [if_neg e,hr4];congr 1;by_cases c:i<=m/\m-i<k
     ·rw [if_pos c,if_pos ⟨c.1,by omega⟩]
     ·rw [if_neg c,if_neg (by omega)]
  ·rintro _ ⟨rs',o5',o6',rfl,lr',hr4⟩;rw [tj,aa] at hr4;refine ⟨rs',_,_,_,_,rfl,lr',fun m=>?_⟩;rw [hr4 m,Cv.yN];congr 1;by_cases c:i<=m
   ·rw [if_pos c];by_cases c':m-i<B.length
    ·rw [if_pos ⟨c,c'⟩]
    ·rw [if_neg (fun z=>c' z.2),Cv.sT (P:=B) (by omega),bw]
   ·rw [if_neg c,if_neg (fun z=>c z.1)]
 ·rintro _ ⟨rs,o3,o4,o5,o6,rfl,lr,hr⟩;rw [tj,aa] at hr;exact q rs (by omega) fun k=>by rw [hr k,Cv.vj fun j h=>Cv.sT h]
theorem j5:Does 7 kR jx:=by
 rintro ds Q hn ⟨⟨x,y,A,B,n,m⟩,⟨rfl,hx,hy,la,lb,hA,hB,hnm⟩,q⟩;dsimp only at hx hy la lb hA hB hnm q;have none:(A=[]\/B=[])->0<=sizeLine/\Q (.lst []):=fun h=>⟨aC _,q _ ⟨[],rfl,aC _,fun k=>by
  rcases h with rfl | rfl
  ·exact (Cv.wU fun _=>rfl).symm
  ·exact (Cv.Fg fun _=>rfl).symm⟩⟩
 cases A with
 | nil=>rcases hx with rfl | rfl <;> exact none (.inl rfl)
 | cons a A =>
  cases B with
  | nil=>rcases hx with rfl | rfl <;> rcases hy with rfl | rfl <;> exact none (.inr rfl)
  | cons b B =>
   have go:=Ke (Q:=Q) hx hy (ga _) (ga _) hA hB hnm fun rs lr hr=>q _ ⟨rs,rfl,lr,hr⟩;have e0:((((a::A).map D.int).length:Nat):Int)+((((b::B).map D.int).length:Nat):Int)-1=(((a::A).length+(b::B).length-1:Nat):Int):=by
    rw [aa,aa,bg,bg];omega
   have lN:(a::A).length+(b::B).length-1<=1000:=by omega
   have key:1<=sizeLine /\ -(2^63)<=((((a::A).map D.int).length:Nat):Int)+((((b::B).map D.int).length:Nat):Int)-1/\((((a::A).map D.int).length:Nat):Int)+((((b::B).map D.int).length:Nat):Int)-1<2^63/\1*(((((a::A).map D.int).length:Nat):Int)+((((b::B).map D.int).length:Nat):Int)-1).toNat<=sizeLine /\
     jd.run (tf Q) [.val x,.val y,.own (List.replicate (((((a::A).map D.int).length:Nat):Int)+((((b::B).map D.int).length:Nat):Int)-1).toNat [D.int 0]).flatten,.no,.no,.no,.no]:=by
    rw [e0,aS,vT];generalize (a::A).length+(b::B).length-1=z at *;exact ⟨Ba,by omega,by omega,vf (by omega),go⟩
   rcases hx with rfl | rfl <;> rcases hy with rfl | rfl <;> exact key
end Dp
namespace Dp
open PySem L2
def sL:SpB:=.of 2 (α:=List Int×Int×List Int×Int×Nat×Nat×Nat×Nat) (fun (P,B,P',B',n,b,m,c) ds=>ds=[pD P B,pD P' B']/\Pc.Pz n b P B/\Pc.Pz m c P' B'/\b+c<=9000000/\n+m<=1000000/\P.length<=450/\P'.length<=450)
 (fun (P,B,P',B',n,b,m,c) d=>∃ R C,d=pD R C/\Po.Fm R C/\∀ k,R.getD k 0*(B*B')=Cv.cv (Cv.fn P) (Cv.fn P') k*C)
def rh:SpB:=.of 2 (α:=List Int×Int×List Int×Int×Nat×Nat×Nat×Nat) (fun (P,B,P',B',n,b,m,c) ds=>ds=[pD P B,pD P' B']/\Pc.Pz n b P B/\Pc.Pz m c P' B'/\b+c<=9000000/\n+m<=1000000/\P.length<=900/\P'.length<=900)
 (fun (P,B,P',B',n,b,m,c) d=>∃ R C,d=pD R C/\Po.Fm R C/\∀ k,R.getD k 0*(B*B')=(P.getD k 0*B'+P'.getD k 0*B)*C)
def rY:TSd:=(iP [] (iK i7 (iH (iK ji (iH (iI 2) (iH (iI 4) iJ))) (iH (iL .Mult (dIx (iI 0) (dC (.int 1))) (dIx (iI 1) (dC (.int 1)))) iJ))))
def rZ:TSd:=dSq (iO [] (gNm 4) (iT (i5 (dIx (iI 1) (dC (.int 0)))) [3] (gNm 3) i9 (iL .Mult (iI 3) (dIx (iI 0) (dC (.int 1))))))
 rY
def sF:TSd:=dSq (iO [] (gNm 2) (iT (i5 (dIx (iI 0) (dC (.int 0)))) [3] (gNm 3) i9 (iL .Mult (iI 3) (dIx (iI 1) (dC (.int 1))))))
 rZ
theorem y9 {A:List Int}{c:Int}(k:Nat):(A.map fun z=>z*c).getD k 0=A.getD k 0*c:=by
 rw [ac,ac,aO];cases A[k]? <;> simp
theorem rC:Does 5 sF rh:=by
 rintro ds Q hn ⟨⟨P1,B1,P2,B2,n,b,m,c⟩,⟨rfl,G1,G2,hb,hm,l1,l2⟩,q⟩;dsimp only at G1 G2 hb hm l1 l2 q;refine ⟨(congrArg (· <= sizeLine) (aa _)).mpr (vf (by omega)),mI (fun z=>z*B2) P1,mI.nil,fun i d ys hd _ hy=>?_,fun ys _ hy=>?_⟩
 ·obtain ⟨z,hz,rfl⟩:=u7 hd;have e:P1.getD i 0=z:=tL hz;exact ⟨⟨n,c,e ▸ G1.tops i,G2.bot,by omega⟩,hy.snoc hz rfl⟩
 cases hy.all (by rw [aa]);refine ⟨(congrArg (· <= sizeLine) (aa _)).mpr (vf (by omega)),mI (fun z=>z*B1) P2,mI.nil,fun i d ys hd _ hy=>?_,fun ys _ hy=>?_⟩
 ·obtain ⟨z,hz,rfl⟩:=u7 hd;have e:P2.getD i 0=z:=tL hz;exact ⟨⟨m,b,e ▸ G2.tops i,G1.bot,by omega⟩,hy.snoc hz rfl⟩
 cases hy.all (by rw [aa]);refine ⟨rfl,(_,_,P1.map (fun z=>z*B2),P2.map (fun z=>z*B1)),⟨rfl,.inl rfl,.inl rfl,by show (P1.map _).length<=1000;rw [aa];omega,by show (P2.map _).length<=1000;rw [aa];omega⟩,?_⟩;rintro _ ⟨rs,rfl,lr,hr⟩;have lr:rs.length=max (P1.map fun z=>z*B2).length (P2.map fun z=>z*B1).length:=lr;rw [aa,aa] at lr;refine ⟨⟨b,c,G1.bot,G2.bot,by omega⟩,rfl,(rs,B1*B2),⟨rfl,az G1.fm.pos G2.fm.pos,(G1.bot.mul G2.bot).mono hb,by show rs.length<=1000;omega⟩,?_⟩;rintro _ ⟨R,C,rfl,fm,hw,_⟩;refine q _ ⟨R,C,rfl,fm,fun k=>(hw k).trans ?_⟩;show rs.getD k 0*C=(P1.getD k 0*B2+P2.getD k 0*B1)*C;have h:rs.getD k 0=(P1.map fun z=>z*B2).getD k 0+(P2.map fun z=>z*B1).getD k 0:=hr k;rw [h,y9,y9]
def oD:SpB:=.of 2 (α:=List Int×Int×Int×Int×Nat×Nat×Nat×Nat) (fun (P,B,t,u,n,b,m,c) ds=>ds=[pD P B,fD t u]/\Pc.Pz n b P B/\0<u/\Lt2 m t/\Lt2 c u/\b+c<=9000000/\n+m<=1000000/\P.length<=900)
 (fun (P,B,t,u,n,b,m,c) d=>∃ R C,d=pD R C/\Po.Fm R C/\(∀ k,R.getD k 0*(B*u)=(P.getD k 0*t)*C)/\R.length<=P.length)
def r8:TSd:=(iP [] (iK i7 (iH (iT (i5 (dIx (iI 0) (dC (.int 0)))) [2] (gNm 2) i9 (iL .Mult (iI 2) (dIx (iI 1) (dC (.int 0))))) (iH (iL .Mult (dIx (iI 0) (dC (.int 1))) (dIx (iI 1) (dC (.int 1)))) iJ))))
theorem qm:Does 3 r8 oD:=by
 rintro ds Q hn ⟨⟨P,B,t,u,n,b,m,c⟩,⟨rfl,G1,u0,lt,lu,hb,hm,l1⟩,q⟩;dsimp only at G1 u0 lt lu hb hm l1 q;refine ⟨(congrArg (· <= sizeLine) (aa _)).mpr (vf (by omega)),mI (fun z=>z*t) P,mI.nil,fun i d ys hd _ hy=>?_,fun ys _ hy=>?_⟩
 ·obtain ⟨z,hz,rfl⟩:=u7 hd;have e:P.getD i 0=z:=tL hz;exact ⟨⟨n,m,e ▸ G1.tops i,lt,by omega⟩,hy.snoc hz rfl⟩
 cases hy.all (by rw [aa]);refine ⟨⟨b,c,G1.bot,lu,by omega⟩,rfl,(P.map (fun z=>z*t),B*u),⟨rfl,az G1.fm.pos u0,(G1.bot.mul lu).mono hb,by show (P.map _).length<=1000;rw [aa];omega⟩,?_⟩;rintro _ ⟨R,C,rfl,fm,hw,hle⟩;have hle:R.length<=(P.map fun z=>z*t).length:=hle;rw [aa] at hle;refine q _ ⟨R,C,rfl,fm,fun k=>(hw k).trans ?_,hle⟩;show (P.map fun z=>z*t).getD k 0*C=P.getD k 0*t*C;rw [y9]
end Dp
namespace Dp
open PySem L2
theorem ri {a b:Int}:((a*b:Int):Rat)=(a:Rat)*(b:Rat):=aB a b
def ni:SpB:=.of 2 (α:=D×D×Rat×Rat×Nat×Nat×Nat×Nat) (fun (d1,d2,r1,r2,n1,b1,n2,b2) ds=>ds=[d1,d2]/\FqD n1 b1 d1 r1/\FqD n2 b2 d2 r2/\b1+b2<=9000000/\n1+b2<=1000000/\n2+b1<=1000000)
 (fun (d1,d2,r1,r2,n1,b1,n2,b2) d=>FqD (n1+b2+(n2+b1)+1) (b1+b2) d (r1-r2))
def sj:TSd:=(iP [] (iK jn (iH (iL .Sub (iL .Mult (dIx (iI 0) (dC (.int 0))) (dIx (iI 1) (dC (.int 1)))) (iL .Mult (dIx (iI 1) (dC (.int 0))) (dIx (iI 0) (dC (.int 1))))) (iH (iL .Mult (dIx (iI 0) (dC (.int 1))) (dIx (iI 1) (dC (.int 1)))) iJ))))
theorem qV:Does 2 sj ni:=by
 rintro ds Q hn ⟨⟨d1,d2,r1,r2,n1,b1,n2,b2⟩,⟨rfl,⟨t1,u1,rfl,p1,g1,lt1,lu1,rfl⟩,⟨t2,u2,rfl,p2,g2,lt2,lu2,rfl⟩,hb,h1,h2⟩,q⟩;dsimp only at hb h1 h2 q;have p12:=az p1 p2;refine ⟨⟨_,_,lt1,lu2,by omega⟩,⟨_,_,lt2,lu1,by omega⟩,⟨_,_,lu1,lu2,by omega⟩,rfl,(t1*u2-t2*u1,u1*u2),⟨rfl,aA p12,(lu1.mul lu2).mono hb⟩,?_⟩;rintro _ rfl;have f:=FqD.of (t:=t1*u2-t2*u1) (u:=u1*u2) p12 (((lt1.mul lu2).mono (m:=n1+b2+(n2+b1)) (by omega)).sub ((lt2.mul lu1).mono (by omega))) (lu1.mul lu2);refine q _ ?_;have h3:(u1:Rat)≠0:=by exact_mod_cast aA p1
 have h4:(u2:Rat)≠0:=by exact_mod_cast aA p2
 have e:((t1*u2-t2*u1:Int):Rat) / ((u1*u2:Int):Rat)=(t1:Rat) / (u1:Rat)-(t2:Rat) / (u2:Rat):=by
  rw [Rat.intCast_sub,ri,ri,ri];grind
 rw [← e];exact f
def jH:SpB:=.of 2 (α:=D×D×Rat×Rat×Nat×Nat×Nat×Nat) (fun (d1,d2,r1,r2,n1,b1,n2,b2) ds=>ds=[d1,d2]/\FqD n1 b1 d1 r1/\FqD n2 b2 d2 r2/\b1+b2<=9000000/\n1+n2<=1000000)
 (fun (d1,d2,r1,r2,n1,b1,n2,b2) d=>FqD (n1+n2) (b1+b2) d (r1*r2))
def ph:TSd:=(iP [] (iK jn (iH (iL .Mult (dIx (iI 0) (dC (.int 0))) (dIx (iI 1) (dC (.int 0)))) (iH (iL .Mult (dIx (iI 0) (dC (.int 1))) (dIx (iI 1) (dC (.int 1)))) iJ))))
theorem mK:Does 2 ph jH:=by
 rintro ds Q hn ⟨⟨d1,d2,r1,r2,n1,b1,n2,b2⟩,⟨rfl,⟨t1,u1,rfl,p1,g1,lt1,lu1,rfl⟩,⟨t2,u2,rfl,p2,g2,lt2,lu2,rfl⟩,hb,h1⟩,q⟩;dsimp only at hb h1 q;have p12:=az p1 p2;refine ⟨⟨_,_,lt1,lt2,by omega⟩,⟨_,_,lu1,lu2,by omega⟩,rfl,(t1*t2,u1*u2),⟨rfl,aA p12,(lu1.mul lu2).mono hb⟩,?_⟩;rintro _ rfl;have f:=FqD.of (t:=t1*t2) (u:=u1*u2) p12 (lt1.mul lt2) (lu1.mul lu2);refine q _ ?_;have h3:(u1:Rat)≠0:=by exact_mod_cast aA p1
 have h4:(u2:Rat)≠0:=by exact_mod_cast aA p2
 have e:((t1*t2:Int):Rat) / ((u1*u2:Int):Rat)=(t1:Rat) / (u1:Rat)*((t2:Rat) / (u2:Rat)):=by
  rw [ri,ri];grind
 rw [← e];exact f
def mj:SpB:=.of 2 (α:=D×D×Rat×Rat×Nat×Nat×Nat×Nat) (fun (d1,d2,r1,r2,n1,b1,n2,b2) ds=>ds=[d1,d2]/\FqD n1 b1 d1 r1/\FqD n2 b2 d2 r2/\b1+b2<=4000/\n1+n2<=100000)
 (fun (d1,d2,r1,r2,n1,b1,n2,b2) d=>∃ P B,d=pD P B/\Pc.Pz (n1+n2+b1+b2) (b1+b2) P B/\(∀ x,Qp.E P B x=r1*x+r2)/\P.length<=2/\Qp.q P B 0=r2/\Qp.q P B 1=r1)
end Dp
namespace Dp
open PySem L2
theorem Fh {A P:List Int}{n m:Nat}(hA:∀ k,Lt2 n (A.getD k 0))(hP:∀ k,Lt2 m (P.getD k 0))(la:A.length<=250)(lp:P.length<=250)(k:Nat):Lt2 (n+m+9) (Cv.cv (Cv.fn A) (Cv.fn P) k):=by
 rcases ao k 510 with z | z
 ·exact Cv.CP (b:=9) hA hP (by omega)
 ·rw [Cv.tX (a:=A.length) (b:=P.length) (fun j hj=>Cv.sT hj) (fun j hj=>Cv.sT hj) (by omega)];exact wC _
def pj:SpB:=.of 2 (α:=List Int×Int×List Int×Int×Nat×Nat×Nat×Nat) (fun (P,B,P',B',n,b,m,c) ds=>ds=[pD P B,pD P' B']/\Pc.Pz n b P B/\Pc.Pz m c P' B'/\b+c*P.length<=8900000/\n+(m+c+10)*(P.length+1)<=90000000/\P.length*P'.length<=190/\P.length<=190/\P'.length<=190)
 (fun (P,B,P',B',n,b,m,c) d=>∃ R C,d=pD R C/\Pc.Of P B P' B' R C)
def sk:TSd:=(iP [] (iK i7 (iH (iT (i5 (iI 6)) [8] (gNm 8) i9 (iL .Mult (iI 8) (iI 5))) (iH (iL .Mult (iI 3) (iI 7)) iJ))))
def so:TSd:=dSq (jl [] (m5 (iI 2)) (gNm 8)
 (dSq (iO [] (gNm 6) (iK ji (iH (iK jx (iH (iI 6) (iH (iI 4) iJ))) (iH (iY (iH (iL .Mult (iI 8) (iI 7)) iJ)) iJ))))
 (nM [] 7 .Mult (iI 5))))
 sk
def sq:TSd:=dSq (mt [] 6 7 (iY iJ) (dC (.int 1)))
 so
def sv:TSd:=dSq (iO [] (gTp [4,5]) (iI 1))
 sq
def sM:TSd:=dSq (iO [] (gTp [2,3]) (iI 0))
 sv
theorem r9:Does 9 sM pj:=by
 rintro ds Q hn ⟨⟨P1,B1,P2,B2,n,b,m,c⟩,⟨rfl,G1,G2,hb,hn,hl,l1,l2⟩,q⟩;dsimp only at G1 G2 hb hn hl l1 l2 q;have p1:=G1.fm.pos;have p2:=G2.fm.pos;have hL:(m+c+10)*P1.length+(m+c+10)=(m+c+10)*(P1.length+1):=by rw [bJ]
 have hg:∀ k,P2.length<=k->Cv.fn P2 k=0:=fun k h=>Cv.sT h;refine ⟨rfl,rfl,aC _,fun i s=>∃ (rs:List Int) (o:SD),s=[.val (pD P1 B1),.val (pD P2 B2),.val (.tup (P1.map .int)),.val (.int B1),.val (.tup (P2.map .int)),.val (.int B2),.val (.lst (rs.map .int)),.val (.int (B2^i)),o]/\rs.length<=i*P2.length+1/\(∀ k,Lt2 (n+(m+c+10)*i+1) (rs.getD k 0))/\∀ k,Pc.pc (Cv.fn P1) (Cv.fn P2) B2 P1.length k=B2^i*Pc.pc (Cv.fn P1) (Cv.fn P2) B2 (P1.length-i) k+B2*Cv.cv (Pc.cp (Cv.fn P2) (P1.length-i)) (Cv.fn rs) k,
  ⟨[],.no,by rw [aT];rfl,aC _,fun k=>by rw [sS (fs:=([]:List Int)) (aC _)];exact wC _,fun k=>by rw [Cv.Fg fun j=>Cv.sT (aC _)];simp⟩,?_,?_⟩
 ·rintro i d _ hd ⟨rs,o,rfl,lr,sr,hr1⟩;have hd:(P1.map D.int).reverse[i]? = some d:=hd;have hi:i<P1.length:=by have:=(aj.mp hd).1;simpa using this
  rw [bX (by rw [aa];exact hi),aa] at hd;obtain ⟨_,rfl⟩:=wp hd;have hp1:=G1.tops (P1.length-1-i);have li:(m+c+10)*(i+1)<=(m+c+10)*P1.length:=ak _ hi;rw [bJ] at li;have li2:(i+1)*P2.length<=P1.length*P2.length:=bI _ hi;rw [bo] at li2;have li3:c*i<=(m+c+10)*i:=bI _ (by omega);have ls:=Hv.tx G2.bot i;refine ⟨rfl,(_,_,rs,P2,n+(m+c+10)*i+1,m),⟨rfl,.inl rfl,.inr rfl,by show rs.length<=450;omega,by show P2.length<=450;omega,sr,G2.tops,by show n+(m+c+10)*i+1+m<=100000000;omega⟩,?_⟩;rintro _ ⟨qs,rfl,lq,hq⟩;have lq:qs.length<=rs.length+P2.length:=lq;refine ⟨⟨_,_,hp1,ls,by omega⟩,Ba,rfl,(_,_,qs,[P1.getD (P1.length-1-i) 0*B2^i]),⟨rfl,.inl rfl,.inl rfl,by show qs.length<=1000;omega,by show 1<=1000;decide⟩,?_⟩;rintro _ ⟨ws,rfl,lw,hw⟩;have lw:ws.length=max qs.length 1:=lw;have hw0:∀ j,Cv.fn ws j=Cv.cv (Cv.fn rs) (Cv.fn P2) j+(if j=0 then Cv.fn P1 (P1.length-1-i)*B2^i else 0):=fun j=>by
   have e:ws.getD j 0=qs.getD j 0+[P1.getD (P1.length-1-i) 0*B2^i].getD j 0:=hw j;rw [hq j] at e;cases j with
   | zero=>exact e
   | succ j=>rw [if_neg (by omega)];rw [sS (fs:=[P1.getD (P1.length-1-i) 0*B2^i]) (by simp)] at e;exact e
  refine ⟨⟨_,_,ls,G2.bot,by omega⟩,ws,_,by rw [aI];rfl,?_,fun k=>?_,fun k=>?_⟩
  ·rw [bo];omega
  ·show Lt2 _ (Cv.fn ws k);rw [hw0 k];have y1:Lt2 (n+(m+c+10)*i+1+m+9) (Cv.cv (Cv.fn rs) (Cv.fn P2) k):=Fh sr G2.tops (by omega) (by omega) k;have y2:Lt2 (n+(m+c+10)*i+1+m+9) (if k=0 then Cv.fn P1 (P1.length-1-i)*B2^i else 0):=by
    split
    ·exact (hp1.mul ls).mono (by omega)
    ·exact wC _
   exact (y1.add y2).mono (by rw [bJ];omega)
  ·exact Pc.E4 hg hi hr1 _ hw0
 ·rintro _ ⟨rs,o,rfl,lr,sr,hr1⟩;rw [bO,aa] at lr sr hr1 ⊢;have hr2:∀ k,Pc.pc (Cv.fn P1) (Cv.fn P2) B2 P1.length k=B2*rs.getD k 0:=fun k=>by
   rw [hr1 k,cD];show _*0+B2*Cv.cv Pc.d0 (Cv.fn rs) k=_;rw [Pc.xP,bw,cJ];rfl
  have ls:=Hv.tx G2.bot P1.length;have Y:=az p1 (Hv.pow_pos p2 P1.length);refine ⟨(congrArg (· <= sizeLine) (aa _)).mpr (vf (by omega)),mI (fun z=>z*B2) rs,mI.nil,fun i d ys hd _ hy=>?_,fun ys _ hy=>?_⟩
  ·obtain ⟨z,hz,rfl⟩:=u7 hd;have e:rs.getD i 0=z:=tL hz;exact ⟨⟨_,_,e ▸ sr i,G2.bot,by omega⟩,hy.snoc hz rfl⟩
  cases hy.all (by rw [aa]);refine ⟨⟨_,_,G1.bot,ls,by omega⟩,rfl,(rs.map (fun z=>z*B2),B1*B2^P1.length),⟨rfl,Y,(G1.bot.mul ls).mono (by omega),by show (rs.map _).length<=1000;rw [aa];omega⟩,?_⟩;rintro _ ⟨R,C,rfl,fm,hw,hle⟩;refine q _ ⟨R,C,rfl,fm,fun k=>?_⟩;have h:R.getD k 0*(B1*B2^P1.length)=(rs.map fun z=>z*B2).getD k 0*C:=hw k;rw [h,y9,hr2 k,bt B2]
end Dp
namespace Dp
open PySem L2
def j6:SpB:=.of 1 (α:=List Int×Int×Nat×Nat) (fun (P,B,n,b) ds=>ds=[pD P B]/\Pc.Pz n b P B/\Qp.q P B 1≠0/\2*n+b+2<=4000)
 (fun (P,B,n,b) d=>∃ R C,d=pD R C/\Pc.Pz (5*(n+b)+8) (2*(n+b)+2) R C/\(∀ x,Qp.E R C x=1 / Qp.q P B 1*x+(0-Qp.q P B 0) / Qp.q P B 1)/\R.length<=2/\Qp.q R C 0=(0-Qp.q P B 0) / Qp.q P B 1/\Qp.q R C 1=1 / Qp.q P B 1)
def mL:TSd:=(iP [] (iK mj (iH (iK jh (iH (iZ (iH (dC (.int 1)) (iH (dC (.int 1)) iJ))) (iH (iI 1) iJ))) (iH (iK jh (iH (iK ni (iH (iZ (iH (dC (.int 0)) (iH (dC (.int 1)) iJ))) (iH (iI 2) iJ))) (iH (iI 1) iJ))) iJ))))
def n9:TSd:=dSq (mt [] 1 2 (iK iX (iH (iI 0) (iH (dC (.int 1)) iJ))) (iK iX (iH (iI 0) (iH (dC (.int 0)) iJ))))
 mL
theorem lJ:Does 3 n9 j6:=by
 rintro ds Q hn ⟨⟨P,B,n,b⟩,⟨rfl,G,h1,hz⟩,q⟩;dsimp only at G h1 hz q;refine ⟨rfl,(P,B,1,n,b),⟨rfl,G,by omega⟩,?_⟩;rintro da fa;refine ⟨rfl,(P,B,0,n,b),⟨rfl,G,by omega⟩,?_⟩;rintro db fb;have fa:FqD n b da (Qp.q P B 1):=fa;have fb:FqD n b db (Qp.q P B 0):=fb;have i1:((1:Int):Rat)=1:=rfl;have i0:((0:Int):Rat)=0:=rfl;refine ⟨ur,rfl,(fD 1 1,da,((1:Int):Rat),Qp.q P B 1,1,1,n,b),⟨rfl,ua (by decide),fa,h1,by show 1+n<=9000000;omega,by show 1+b<=1000000;omega⟩,?_⟩;rintro d1 f1;refine ⟨ur,rfl,(fD 0 1,db,((0:Int):Rat),Qp.q P B 0,0,1,n,b),⟨rfl,ua (wC _),fb,by show 1+b<=9000000;omega,by show 0+b<=1000000;omega,by show n+1<=1000000;omega⟩,?_⟩;rintro d2 f2;refine ⟨rfl,(d2,da,((0:Int):Rat)-Qp.q P B 0,Qp.q P B 1,0+b+(n+1)+1,1+b,n,b),⟨rfl,f2,fa,h1,by show 1+b+n<=9000000;omega,by show 0+b+(n+1)+1+b<=1000000;omega⟩,?_⟩;rintro d3 f3;refine ⟨rfl,(d1,d3,((1:Int):Rat) / Qp.q P B 1,(((0:Int):Rat)-Qp.q P B 0) / Qp.q P B 1,1+b,1+n,0+b+(n+1)+1+b,1+b+n),⟨rfl,f1,f3,by show 1+n+(1+b+n)<=4000;omega,by show 1+b+(0+b+(n+1)+1+b)<=100000;omega⟩,?_⟩;rintro _ ⟨R,C,rfl,z,e,l,q0,q1⟩;rw [i1,i0] at e;rw [i0] at q0;rw [i1] at q1;exact q _ ⟨R,C,rfl,Pc.Pz.mono z (by show 1+b+(0+b+(n+1)+1+b)+(1+n)+(1+b+n)<=_;omega) (by show 1+n+(1+b+n)<=_;omega),e,l,q0,q1⟩
end Dp
namespace Dp
open PySem L2
theorem Dz (P:List Int):D.dps (P.map D.int)=0:=by
 induction P with
 | nil=>rfl
 | cons a P ih=>show max 0 (D.dps (P.map D.int))=0;rw [ih];rfl
end Dp
namespace Dp
open PySem L2 Ch
abbrev pq (p:Pl):D:=pD p.1 p.2
end Dp
namespace Dp
open PySem L2 Ch
def To (w:Rat×Rat)(G:List Int)(U:Int):Prop:=Po.Fm G U/\G.length=2/\G.getD 1 0≠0/\Qp.q G U 1=w.1/\Qp.q G U 0=w.2
theorem To.E {w:Rat×Rat}{G:List Int}{U:Int}(h:To w G U)(x:Rat):Qp.E G U x=w.1*x+w.2:=by
 rw [Qp.yI (by rw [h.2.1];exact am _),← h.2.2.2.1,← h.2.2.2.2];unfold Qp.q;grind
end Dp
namespace Dp
open PySem L2 Ch
theorem Kh (p s a B:Rat)(nb:B≠0)(na:a≠0)(hs:s*s=1)(ha:a*s≠0):(0-p*s) / (a*s)=(0-p / B) / (a / B):=by
 have:s≠0:=fun z=>by rw [z] at hs;grind
 grind
theorem Kg (s a B:Rat)(nb:B≠0)(na:a≠0)(hs:s*s=1)(ha:a*s≠0):B*s / (a*s)=1 / (a / B):=by
 have:s≠0:=fun z=>by rw [z] at hs;grind
 grind
def jy:SpB:=.of 1 (α:=List Int×Int×Nat×Nat) (fun (P,B,n,b) ds=>ds=[pD P B]/\Pc.Pz n b P B/\P.length=2/\P.getD 1 0≠0/\n<=8000/\b<=8000)
 (fun (P,B,n,b) d=>∃ R C,d=pD R C/\Pc.Pz (n+b+1) n R C/\R.length<=2/\Qp.q R C 1=1 / Qp.q P B 1/\Qp.q R C 0=(0-Qp.q P B 0) / Qp.q P B 1)
def jw:TSd:=(iP [] (iK iS (iH (iY (iH (iL .Sub (dC (.int 0)) (iL .Mult (iI 1) (iI 3))) (iH (iL .Mult (dIx (iI 0) (dC (.int 1))) (iI 3)) iJ))) (iH (dB bAbs bAbs.mono (iH (iI 2) iJ)) iJ))))
def ki:TSd:=dSq (iO [] (gNm 3) (dIx (iY (iH (iL .Sub (dC (.int 0)) (dC (.int 1))) (iH (dC (.int 1)) iJ))) (dB bInt bInt.mono (iH (iR .Gt (iI 2) (dC (.int 0))) iJ))))
 jw
def kS:TSd:=dSq (iO [] (gTp [1,2]) (dIx (iI 0) (dC (.int 0))))
 ki
theorem j7:Does 4 kS jy:=by
 rintro ds Q hn ⟨⟨P,B,n,b⟩,⟨rfl,z,l2,p1,hn,hb⟩,q⟩;dsimp only at z l2 p1 hn hb q;obtain ⟨x,y,rfl⟩:∃ x y,P=[x,y]:=by
  match P,l2 with
  | [x,y],_=>exact ⟨x,y,rfl⟩
 have p1:y≠0:=p1;have B0:=z.fm.pos;have lx:Lt2 n x:=z.tops 0;have ly:Lt2 n y:=z.tops 1;have key:∀ s:Int,Lt2 1 s->s*s=1->y*s=(y.natAbs:Int)->jw.run (tf Q) [.val (pD [x,y] B),.val (.int x),.val (.int y),.val (.int s)]:=fun s ls ss ys=>by
  have a0:(0:Int)<((y.natAbs:Nat):Int):=by omega
  have la:Lt2 n ((y.natAbs:Nat):Int):=by unfold Lt2;rw [bj];exact ly
  refine ⟨⟨n,1,lx,ls,by omega⟩,⟨b,1,z.bot,ls,by omega⟩,ur,rfl,([0-x*s,B*s],((y.natAbs:Nat):Int)),⟨.inl ?_,a0,la.mono (by omega),by show 2<=1000;decide⟩,?_⟩
  ·show [D.lst [.int (0-x*s),.int (B*s)],.int (if y<0 then -y else y)]=_;rw [uG];rfl
  rintro _ ⟨R,C,rfl,fR,wR,lR⟩;have wR:∀ k,R.getD k 0*((y.natAbs:Nat):Int)=[0-x*s,B*s].getD k 0*C:=wR;have qq:=fun k=>Qp.Ak (f:=fun k=>[0-x*s,B*s].getD k 0) fR.pos (aA a0) wR k;have ys':((y.natAbs:Int):Rat)=(y:Rat)*(s:Rat):=by rw [← ys,aB]
  have hs:(s:Rat)*(s:Rat)=1:=by rw [← aB,ss];rfl
  have ny:(y:Rat)≠0:=Qp.tO p1;have nB:=Qp.sQ B0;have nys:(y:Rat)*(s:Rat)≠0:=by rw [← ys'];exact Qp.sQ a0
  refine q _ ⟨R,C,rfl,?_,lR,?_,?_⟩
  ·refine Pc.Pz.of fR a0 wR (fun k=>?_) la;match k with
   | 0=>exact (((lx.mul ls).mono (m:=n+1) (am _)).le (by show (0-x*s).natAbs<=(x*s).natAbs;omega)).mono (by omega)
   | 1=>exact (z.bot.mul ls).mono (by omega)
   | k+2=>rw [Pc.yL];exact wC _
  ·rw [qq 1];show ((B*s:Int):Rat) / ((y.natAbs:Int):Rat)=1 / ((y:Rat) / (B:Rat));rw [ys',aB];exact Kg _ _ _ nB ny hs nys
  ·rw [qq 0];show ((0-x*s:Int):Rat) / ((y.natAbs:Int):Rat)=(0-(x:Rat) / (B:Rat)) / ((y:Rat) / (B:Rat));rw [ys',Rat.intCast_sub,aB];exact Kh _ _ _ _ nB ny hs nys
 refine ⟨rfl,ur,?_⟩;by_cases c:0<y
 ·refine uD (d:=.int 1) ?_ (key 1 (by unfold Lt2;decide) (by decide) (by omega));show xZ _ (if decide (0<y)=true then (1:Int) else 0)=_;rw [if_pos (by simpa using c)];rfl
 ·refine uD (d:=.int (0-1)) ?_ (key (0-1) (by unfold Lt2;decide) (by decide) (by omega));show xZ _ (if decide (0<y)=true then (1:Int) else 0)=_;rw [if_neg (by simpa using c)];rfl
end Dp
namespace Dp
open PySem L2
theorem DU {c m x:Int}(h:0<m)(hc:c∣m)(hx:c∣x):c*m.fdiv (Fr.cp m x)∣m:=by
 have g0:=uX (a:=m) (b:=x) (by omega);obtain ⟨e,_,_⟩:=tE g0 h (vI m x).1;have hg:c∣Fr.cp m x:=by
  unfold Fr.cp;exact Int.dvd_coe_gcd hc hx
 obtain ⟨y,hy⟩:=hg;generalize m.fdiv (Fr.cp m x)=q at *;generalize Fr.cp m x=g at *;refine ⟨y,?_⟩;rw [e,hy];grind
def kT:TSd:=(iP [] (iI 3))
def kU:TSd:=dSq (jl [] (kH (dC (.int 1)) (iL .Add (iI 1) (dC (.int 1)))) (gNm 4)
 (nM [] 3 .Mult (iL .FloorDiv (iI 2) (iK ja (iH (iI 2) (iH (iL .Mult (dIx (iI 0) (iL .Sub (iI 1) (iI 4))) (iK iM (iH (iI 3) (iH (iI 4) iJ)))) iJ))))))
 kT
def jf:TSd:=dSq (iO [] (gNm 3) (dC (.int 1)))
 kU
def mM:TSd:=dSq (mt [] 1 2 (iL .Sub (dB bLen bLen.mono (iH (iI 0) iJ)) (dC (.int 1))) (dB bAbs bAbs.mono (iH (dIx (iI 0) (mr (dC (.int 1)))) iJ)))
 jf
end Dp
namespace Dp
open PySem L2
theorem I0 (a:Int){m n:Nat}(h:m<=n):a^m∣a^n:=⟨a^(n-m),by rw [← cQ];congr 1;omega⟩
theorem BH {P:List Int}{B c:Int}{f:Nat->Int}(F:Po.Fm P B)(h:∀ k,P.getD k 0*c=f k*B):B∣c:=bc.mp (Po.zy (P':=(List.range P.length).map f) F fun k=>by
 rcases ao k P.length with z | z
 ·rw [h k,ac,aO,hV z];rfl
 ·rw [sS z,sS (by rw [aa,fU];exact z)];simp)
end Dp
namespace Dp
open PySem L2
theorem lcm_dvd {b r D:Int}(hb:0<b)(hr:0<r)(h1:b∣D)(h2:r∣D):b*r.fdiv (Fr.cp b r)∣D:=by
 have g0:=uX (a:=b) (b:=r) (by omega);obtain ⟨e,q0,_⟩:=tE g0 hr (vI b r).2;have l:=Nat.lcm_dvd (bc.mpr h1) (bc.mpr h2);refine bc.mp ?_;have eg:Fr.cp b r=((Nat.gcd b.natAbs r.natAbs:Nat):Int):=rfl;rw [aR];have e2:r.natAbs=Nat.gcd b.natAbs r.natAbs*(r.fdiv (Fr.cp b r)).natAbs:=by
  have:=congrArg Int.natAbs e;rw [aR,eg,bj] at this;rw [eg];exact this
 have g1:0<Nat.gcd b.natAbs r.natAbs:=Nat.gcd_pos_of_pos_left _ (by omega);unfold Nat.lcm at l;generalize (r.fdiv (Fr.cp b r)).natAbs=q at *;generalize hg:Nat.gcd b.natAbs r.natAbs=g at *;rw [e2,show b.natAbs*(g*q)=g*(b.natAbs*q) by grind,Nat.mul_div_cancel_left _ g1] at l;exact l
def Nd (fs:List (Int×Int))(Dv:Int)(m:Nat):Prop:=(∀ f∈fs,0<f.2/\Lt2 m f.1/\f.2∣Dv)/\fs.length<=100/\0<Dv/\Lt2 8990000 Dv/\m<=10000000
def jo:SpB:=.of 1 (α:=List (Int×Int)×Int×Nat) (fun (fs,D,m) ds=>ds=[.lst (FS fs)]/\Nd fs D m)
 (fun (fs,D,m) d=>∃ b0:Int,d = .tup [.lst ((fs.map fun f=>f.1*b0.fdiv f.2).map .int),.int b0]/\0<b0/\Lt2 8990000 b0/\b0∣D/\∀ (j:Nat) (f:Int×Int),fs[j]? = some f->f.2∣b0)
def jX:TSd:=(iP [] (iZ (iH (iT (i5 (iI 0)) [2] (gNm 2) i9 (iL .Mult (dIx (iI 2) (dC (.int 0))) (iL .FloorDiv (iI 1) (dIx (iI 2) (dC (.int 1)))))) (iH (iI 1) iJ))))
def jY:TSd:=dSq (jl [] (i5 (iI 0)) (gNm 2)
 (nM [] 1 .Mult (iL .FloorDiv (dIx (iI 2) (dC (.int 1))) (iK ja (iH (iI 1) (iH (dIx (iI 2) (dC (.int 1))) iJ))))))
 jX
def kj:TSd:=dSq (iO [] (gNm 1) (dC (.int 1)))
 jY
theorem jQ:Does 3 kj jo:=by
 rintro ds Q hn ⟨⟨fs,D1,m⟩,⟨rfl,hb,hl,D0,lD,hm⟩,q⟩;dsimp only at hb hl D0 lD hm q;have sizes:∀ {i:Nat} {f:Int×Int},fs[i]? = some f->0<f.2/\Lt2 m f.1/\f.2∣D1:=fun h=>hb _ (aM h);have small:∀ {c:Int},c∣D1->Lt2 8990000 c:=fun h=>lD.le (cR (by omega) (bc.mpr h));refine ⟨fun i s=>∃ (o:SD) (b0:Int),s=[.val (.lst (FS fs)),.val (.int b0),o]/\0<b0/\b0∣D1/\∀ (j:Nat) (f:Int×Int),j<i->fs[j]? = some f->f.2∣b0,⟨.no,1,rfl,by decide,Int.one_dvd _,fun j f h=>absurd h (cO _)⟩,?_,?_⟩
 ·rintro i d _ hd ⟨o,b0,rfl,h0,hl0,hd0⟩;obtain ⟨f,hf,rfl⟩:=zO hd;obtain ⟨b1,l1,l2⟩:=sizes hf;have g0:=uX (a:=b0) (b:=f.2) (by omega);obtain ⟨e,q0,ql⟩:=tE g0 b1 (vI b0 f.2).2;obtain ⟨k1,k2⟩:=FG h0 b1;have gl:(Fr.cp b0 f.2).natAbs<=f.2.natAbs:=cR (by omega) (bc.mpr (vI b0 f.2).2);refine ⟨rfl,(b0,f.2),rfl,?_⟩;rintro _ rfl;refine ⟨⟨by show Fr.cp b0 f.2≠0;omega,8990000,(small l2).le gl,by decide⟩,⟨_,_,small hl0,(small l2).le ql,by decide⟩,_,_,rfl,k1,lcm_dvd h0 b1 hl0 l2,fun j g hj hg=>?_⟩;rcases cC (gh hj) with z | z
  ·rw [z,hf] at hg;cases hg;exact k2
  ·exact eV (hd0 j g z hg)
 ·rintro _ ⟨o,b0,rfl,h0,hl0,hd0⟩;rw [aa] at hd0;have hd1:∀ (j:Nat) (f:Int×Int),fs[j]? = some f->f.2∣b0:=fun j f h=>hd0 j f (aj.mp h).1 h;refine ⟨(congrArg (· <= sizeLine) (aa _)).mpr (vf (by omega)),mI (fun f:Int×Int=>f.1*b0.fdiv f.2) fs,mI.nil,fun i d ys hd _ hy=>?_,fun ys _ hy=>?_⟩
  ·obtain ⟨f,hf,rfl⟩:=zO hd;obtain ⟨b1,l1,l2⟩:=sizes hf;obtain ⟨e,q0,ql⟩:=tE b1 h0 (hd1 _ _ hf);exact ⟨⟨by show f.2≠0;omega,8990000,small l2,by decide⟩,⟨_,_,l1,(small hl0).le ql,by omega⟩,hy.snoc hf rfl⟩
  ·cases hy.all (by rw [aa]);exact ⟨ur,q _ ⟨b0,rfl,h0,small hl0,hl0,hd1⟩⟩
def jK:SpB:=.of 1 (α:=List (Int×Int)×Int×Nat) (fun (fs,D,m) ds=>ds=[.lst (FS fs)]/\Nd fs D m)
 (fun (fs,D,m) d=>∃ P B,d=pD P B/\Po.Fm P B/\(∀ k,P.getD k 0*(fs.getD k (0,1)).2=(fs.getD k (0,1)).1*B)/\P.length<=fs.length/\B∣D)
def qX:TSd:=(iP [] (iK i7 (iH (iI 1) (iH (iI 2) iJ))))
def sa:TSd:=dSq (iO [] (gTp [1,2]) (iK jo (iH (iI 0) iJ)))
 qX
theorem qo:Does 3 sa jK:=by
 rintro ds Q hn ⟨⟨fs,D1,m⟩,⟨rfl,hF⟩,q⟩;have hF':=hF;obtain ⟨hb,hl,D0,lD,hm8⟩:=hF';refine ⟨rfl,(fs,D1,m),⟨rfl,hF⟩,?_⟩;rintro _ ⟨b0,rfl,h0,hl0,hbD,hd⟩;refine ⟨rfl,rfl,(fs.map fun f=>f.1*b0.fdiv f.2,b0),⟨rfl,h0,Lt2.mono hl0 (by decide),by show (fs.map fun f=>f.1*b0.fdiv f.2).length<=1000;rw [aa];omega⟩,?_⟩;rintro _ ⟨P,B,rfl,fm,hw,hle⟩;have hle:P.length<=(fs.map fun f=>f.1*b0.fdiv f.2).length:=hle;rw [aa] at hle;refine q _ ⟨P,B,rfl,fm,fun k=>?_,hle,eK (bc.mp (Po.zy fm hw)) hbD⟩;have hk:P.getD k 0*b0=(fs.map fun f=>f.1*b0.fdiv f.2).getD k 0*B:=hw k;show P.getD k 0*(fs.getD k (0,1)).2=(fs.getD k (0,1)).1*B;cases hf:fs[k]? with
 | none =>
  rw [sS (fs:=fs.map fun f=>f.1*b0.fdiv f.2) (by rw [aa];exact gJ.mp hf),aL] at hk;rw [sS (fs:=fs) (gJ.mp hf)];rcases cy.mp hk with z | z
  ·rw [z];simp
  ·omega
 | some f =>
  have hm:(fs.map fun f=>f.1*b0.fdiv f.2).getD k 0=f.1*b0.fdiv f.2:=tL (by rw [aO,hf];rfl);rw [hm] at hk;rw [tL hf];have b1:=(hb f (aM hf)).1;obtain ⟨e,q0,_⟩:=tE b1 h0 (hd k f hf);refine aJ (aA q0) ?_;generalize b0.fdiv f.2=y at *;grind
end Dp
namespace Dp
open PySem L2
theorem zt {F:Nat->Int}(h:∀ k,F k=0)(x:Rat):∀ n,Qp.ei F x n=0
 | 0=>rfl
 | n+1=>by
  rw [Qp.ei,zt h x n,h n];show (0:Rat)+0*_=0;grind
theorem v6 {P R:Nat->Int}{k s:Nat}{C:Int}(h:Ca.Cand P k s R C)(s1:1<=s):R s=C/\R 0=0:=by
 obtain ⟨c,g,c0,g0,h1,h2,h3⟩:=h;have:=h2 0 (by omega);rw [bZ,aT,bh,g0,bV] at this;exact ⟨this,h3⟩
theorem Fs {P G:List Int}{s:Nat}{U:Int}(lG:G.length=s+1)(lP:P.length=s+1)(fG:Po.Fm G U)(h:Ca.Cand (fun i=>P.getD i 0) 1 s (fun i=>G.getD i 0) U)(hL:P.getD s 0≠0):U.natAbs<=(P.getD s 0).natAbs:=by
 obtain ⟨c,g,c0,g0,h1,h2,h3⟩:=h;have key:∀ k,G.getD k 0*P.getD s 0=(if k=0 then 0 else P.getD k 0)*U:=fun k=>by
  by_cases c1:k=0
  ·subst c1;have h3:G.getD 0 0=0:=h3;rw [if_pos rfl,h3];simp
  rw [if_neg c1];rcases ao s k with z | z
  ·rw [sS (fs:=G) (i:=k) (by omega),sS (fs:=P) (i:=k) (by omega)];simp
  ·have a:P.getD (1*s-(s-k)) 0*c^(s-k)=P.getD (1*s) 0*Ca.pw g 1 (s-k):=h1 (s-k) (by omega);have b:G.getD (s-(s-k)) 0*c^(s-k)=g (s-k)*U:=h2 (s-k) (by omega);rw [fh,show s-(s-k)=k by omega] at a;rw [show s-(s-k)=k by omega] at b;rw [Ca.Ei,Pc.MF] at a;refine aJ (show c^(s-k)≠0 from cH (aA c0)) ?_
   calc G.getD k 0*P.getD s 0*c^(s-k)=(G.getD k 0*c^(s-k))*P.getD s 0:=by grind
    _=g (s-k)*U*P.getD s 0:=by rw [b]
    _=(P.getD s 0*g (s-k))*U:=by grind
    _=P.getD k 0*U*c^(s-k):=by rw [← a];grind
 rcases dR hL with z | z
 ·have:=(Po.size (f:=fun k => -(if k=0 then 0 else P.getD k 0)) (b:=-P.getD s 0) fG (by omega) fun k=>by rw [Int.mul_neg,key k,Int.neg_mul]).1;rwa [dQ] at this
 ·exact (Po.size (f:=fun k=>if k=0 then 0 else P.getD k 0) (b:=P.getD s 0) fG z key).1
end Dp
namespace Dp
open PySem L2
theorem AF {t u a c:Int}(u0:0<u)(g:Int.gcd t u=1)(c0:0<c)(e:(t:Rat) / (u:Rat)=(a:Rat) / (c:Rat)):u∣c:=by
 have h:=(Qp.tR (aA u0) (aA c0)).mp e;have d:u∣t*c:=⟨a,by rw [h,bt]⟩;have d:=bc.mpr d;rw [aR] at d;exact bc.mp (Nat.Coprime.dvd_of_dvd_mul_left (show Nat.gcd u.natAbs t.natAbs=1 by rw [gS];exact g) d)
theorem zr (f:Nat->Rat)(y:Rat):∀ n,Qp.er f y (n+1)=f 0+y*Qp.er (fun k=>f (k+1)) y n
 | 0=>by unfold Qp.er Qp.er;grind
 | n+1=>by
  rw [Qp.er,zr f y n,Qp.er];grind
theorem Lz {P:List Int}{B:Int}(l:P.length<=1)(x:Rat):Qp.E P B x=Qp.q P B 0:=by
 rw [Qp.yb (N:=1) l,Qp.MD];rfl
theorem Ig {y x:Rat}:∀ {Ps:List (List Int×Int)} {f:Nat->Rat},(∀ p∈Ps,p.1.length<=1)->(∀ j p,Ps[j]? = some p->f j=Qp.q p.1 p.2 0)->Ap.Ed y x Ps=Qp.er f y Ps.length
 | [],_,_,_=>rfl
 | p::Ps,f,h,hf=>by
  show Qp.E p.1 p.2 x+y*Ap.Ed y x Ps=_;rw [bg,zr,Lz (h p ar),hf 0 p rfl,Ig (fun q hq=>h q (aw _ hq)) fun j q hq=>hf (j+1) q hq]
theorem DI {R:List Int}{C:Int}{N:Nat}(l:R.length<=N)(y:Rat):Qp.E R C y=Qp.er (Qp.q R C) y N:=by
 rw [Qp.JM (fun _=>rfl),Qp.yb l]
end Dp
namespace Dp
open PySem L2
theorem Fn (r:Rat):∃ p:List Int×Int,Po.Fm p.1 p.2/\p.1.length<=1/\∀ x,Qp.E p.1 p.2 x=r:=by
 obtain ⟨t,u,hu,rfl⟩:=Qp.tZ r;have h1:∀ k,1<=k->([t]:List Int).getD k 0=0:=fun k hk=>sS hk;obtain ⟨R,C,fR,w⟩:=Ap.has (F:=fun k=>[t].getD k 0) (n:=1) hu h1;exact ⟨(R,C),fR,Pc.tQ fR hu w h1,fun x=>Qp.xl fR hu w x⟩
theorem zC:∀ (n:Nat) (f:Nat->Rat),∃ Cs:List (List Int×Int),Cs.length=n/\(∀ p∈Cs,Po.Fm p.1 p.2/\p.1.length<=1)/\∀ x y,Ap.Ed y x Cs=Qp.er f y n
 | 0,f=>⟨[],rfl,fun p h=>absurd h aP,fun x y=>rfl⟩
 | n+1,f=>by
  obtain ⟨Cs,l,h,e⟩:=zC n fun k=>f (k+1);obtain ⟨p,fp,lp,ep⟩:=Fn (f 0);refine ⟨p::Cs,by rw [bg,l],fun q hq=>?_,fun x y=>?_⟩
  ·rcases au.mp hq with z | z
   ·rw [z];exact ⟨fp,lp⟩
   ·exact h q z
  ·show Qp.E p.1 p.2 x+y*Ap.Ed y x Cs=_;rw [zr,ep,e]
theorem mem_getD {α:Type}{l:List α}{t:Nat}{d:α}{p:α->Prop}(h:∀ x∈l,p x)(hd:p d):p (l.getD t d):=by
 rcases ao t l.length with z | z
 ·exact h _ (uT z)
 ·rw [sS z];exact hd
end Dp
namespace Dp
open PySem L2 Qp
theorem xC {P W:List Int}{B V:Int}(fP:Po.Fm P B)(fW:Po.Fm W V):∃ R C,Pc.Of P B W V R C:=by
 have p:0<B*V^P.length:=az fP.pos (bS fW.pos);obtain ⟨R,C,fR,w⟩:=Ap.has (F:=Pc.pc (Cv.fn P) (Cv.fn W) V P.length) (n:=P.length*W.length+1) p fun k hk=>Pc.yX (fun j hj=>Cv.sT hj) P.length k hk;exact ⟨R,C,fR,w⟩
theorem Hu (c d:Rat)(c0:c≠0):∃ W V,Po.Fm W V/\W.length=2/\W.getD 1 0≠0/\Qp.q W V 1=c/\∀ x,Qp.E W V x=c*x+d:=by
 obtain ⟨W,V,fW,eW,lW⟩:=(Ap.Pl'.x.smul c).add ((Ap.Pl'.const d).mono (m:=2) (by decide));obtain ⟨S,e,fS,eS,lS⟩:=Ap.Pl'.const d;have q1:=Ap.uI (u:=c) fW Pc.Hk.fm fS (fun x=>by rw [eW,eS,Qp.Hl]) 1;rw [Qp.tU (P:=S) (k:=1) (by omega)] at q1;have q1:Qp.q W V 1=c:=by
  rw [q1];show c*((1:Rat) / 1)+0=c;grind
 obtain ⟨l,n⟩:=xm (by rw [q1];exact c0) lW;exact ⟨W,V,fW,l,n,q1,eW⟩
end Dp
namespace Dp
open PySem L2
theorem FN {W:List Int}{V:Int}(f:Po.Fm W V)(l:W.length=2)(n:W.getD 1 0≠0)(x:Rat):Qp.E W V x=Qp.q W V 1*x+Qp.q W V 0:=To.E (w:=(Qp.q W V 1,Qp.q W V 0)) ⟨f,l,n,rfl,rfl⟩ x
end Dp
namespace Dp
open PySem L2
theorem CL {F G:Nat->Int}{x:Rat}:∀ n,(∀ j,j<n->F j=G j)->Qp.ei F x n=Qp.ei G x n
 | 0,_=>rfl
 | n+1,h=>by rw [Qp.ei,Qp.ei,CL n fun j hj=>h j (by omega),h n (by omega)]
end Dp
namespace Dp
open PySem L2
def Cn (P:List Int)(k s:Nat)(G:List Int)(U:Int):Prop:=Po.Fm G U/\G.length=s+1/\Ca.Cand (fun i=>P.getD i 0) k s (fun i=>G.getD i 0) U
end Dp
namespace Dp
open PySem L2
theorem J7 {X:List Int}{c:Int}{n:Nat}(c0:0<c)(h:∀ k,X.getD k 0=if k=n then c else 0)(y:Rat):Qp.E X c y=y^n:=by
 have lX:X.length<=n+1\/n+1<X.length:=by omega
 have hz:∀ m,n+1<=m->Qp.ei (Cv.fn X) y m=Qp.ei (Cv.fn X) y (n+1):=fun m hm=>by
  have:=Qp.yC (F:=Cv.fn X) (x:=y) (n:=n+1) (fun k hk=>by show X.getD k 0=0;rw [h,if_neg (by omega)]) (m-(n+1));rw [← this];congr 1;omega
 have e0:Qp.ei (Cv.fn X) y n=0:=by
  rw [CL (G:=fun _=>0) n fun j hj=>by show X.getD j 0=0;rw [h,if_neg (by omega)]];exact zt (fun _=>rfl) y n
 have c1:=Qp.sQ c0;rw [Qp.yb (N:=max X.length (n+1)) (Nat.le_max_left _ _),hz _ (Nat.le_max_right _ _),Qp.ei,e0,show Cv.fn X n=c by show X.getD n 0=c;rw [h,if_pos rfl]];grind
end Dp
namespace Dp
open PySem L2
def LN (P:List Int)(B:Int)(G:List Int)(U:Int):Prop:=∃ R C,Po.Fm R C/\∀ x,Qp.E P B x=Qp.E R C (Qp.E G U x)
theorem EH {G R R':List Int}{U C C':Int}{s:Nat}(fG:Po.Fm G U)(lG:G.length=s+1)(s1:1<=s)(fR:Po.Fm R C)(fR':Po.Fm R' C')(h:∀ x,Qp.E R C (Qp.E G U x)=Qp.E R' C' (Qp.E G U x)):R=R'/\C=C':=by
 obtain ⟨Cs,lC,hC,eC⟩:=zC R.length (Qp.q R C);obtain ⟨Ds,lD,hD,eD⟩:=zC R'.length (Qp.q R' C');have u:=Ap.Ed.uniq2 fG lG (ps:=Cs) (qs:=Ds) (fun q hq=>⟨(hC q hq).1,aH (hC q hq).2 s1⟩) (fun q hq=>⟨(hD q hq).1,aH (hD q hq).2 s1⟩) (fun x=>by rw [eC,eD,← DI (am _),← DI (am _),h]);exact Qp.tS fR fR' fun y=>by rw [DI (am R.length),← eC 0 y,Ap.Ed.same u,eD,← DI (am _)]
theorem Gx {G P:List Int}{U B:Int}{s:Nat}{Ps:List (List Int×Int)}{p:List Int×Int}{i:Nat}(fG:Po.Fm G U)(lG:G.length=s+1)(s1:1<=s)(hP:∀ p∈Ps,Po.Fm p.1 p.2/\p.1.length<=s)(e:∀ x,Qp.E P B x=Ap.Ed (Qp.E G U x) x Ps)(hi:Ps[i]? = some p)(h2:2<=p.1.length):¬ LN P B G U:=by
 rintro ⟨R,C,fR,eR⟩;obtain ⟨Cs,lC,hC,eC⟩:=zC R.length (Qp.q R C);have u:=Ap.Ed.uniq2 fG lG (ps:=Ps) (qs:=Cs) hP (fun q hq=>⟨(hC q hq).1,aH (hC q hq).2 s1⟩) (fun x=>by rw [← e,eR,eC,DI (am _)]) i;rw [tL hi] at u;have:(Cs.getD i ([],1)).1.length<=1:=mem_getD (p:=fun q:List Int×Int=>q.1.length<=1) (fun q hq=>(hC q hq).2) (aC _);rw [← u] at this;omega
end Dp
namespace Dp
open PySem L2
theorem xR {R A p:List Int}{C α c:Int}{d s:Nat}(fR:Po.Fm R C)(lR:R.length=d+1)(fA:Po.Fm A α)(lA:A.length=s+1)(s1:1<=s)(fp:Po.Fm p c)(e:∀ x,Qp.E p c x=Qp.E R C (Qp.E A α x)):p.length=d*s+1:=by
 obtain ⟨S,cS,o⟩:=xC fR fA;have l:=Pc.Of.deg_eq fR.pos fA.pos o lR lA s1 (uF fR lR) (uF fA lA);obtain ⟨rfl,rfl⟩:=Qp.tS fp o.1 fun x=>by rw [e,Qp.AV fR.pos fA.pos o]
 exact l
end Dp
namespace Dp
open PySem L2 Cv Hv Pc Qp
theorem yV {A:List Int}{α:Int}{s:Nat}(fA:Po.Fm A α)(lA:A.length=s+1)(mon:A.getD s 0=α)(k:Nat):∃ H C,Po.Fm H C/\(∀ x,E H C x=E A α x^k)/\q H C (k*s)=1:=by
 obtain ⟨H,C,fH,eH,qH⟩:=Ca.Be fA k;refine ⟨H,C,fH,eH,?_⟩;rw [qH,Ca.Ei,BO (fun i hi=>sT (by omega)),show fn A s=α from mon];have n2:=sQ (show 0<α^k from bS fA.pos);generalize ((α^k:Int):Rat)=u at *;grind
theorem CZ {W:List Int}{w:Int}{l:Nat}(fW:Po.Fm W w)(lW:W.length=l+1):∃ r,Ap.Pl' l r/\∀ y,E W w y=q W w l*y^l+r y:=by
 obtain ⟨H,C,fH,eH,qH⟩:=yV (A:=Pc.X) (α:=1) (s:=1) ⟨by decide,.inr (by decide),by decide⟩ rfl rfl l;rw [dZ] at qH;have pH:Ap.Pl' (l+1) (E H C):=((Ap.Pl'.x.pow (s:=1) l).congr fun x=>by rw [eH,Hl]).mono (by omega);obtain ⟨D,e,fD,eD,lD⟩:=((Ap.Pl'.of fW).mono (m:=l+1) (by omega)).add (pH.smul (-(q W w l)));have eD:∀ x,E D e x=E W w x + -(q W w l)*E H C x:=eD;have qe:=Ap.uI (u:=q W w l) fW fH fD (fun x=>by rw [eD x];grind) l;rw [qH] at qe;have z:q D e l=0:=by grind
 refine ⟨E D e,⟨D,e,fD,fun _=>rfl,Ap.GL fD lD z⟩,fun y=>?_⟩;rw [eD y,eH,Hl];grind
theorem ER {W A G:List Int}{w α U:Int}{l s:Nat}(fW:Po.Fm W w)(lW:W.length=l+1)(l1:1<=l)(mW:W.getD l 0=w)(fA:Po.Fm A α)(lA:A.length=s+1)(s1:1<=s)(mA:A.getD s 0=α)(fG:Po.Fm G U)(eG:∀ x,E G U x=E W w (E A α x)):G.getD (l*s) 0=U:=by
 obtain ⟨r,⟨R,C,fR,eR,lR⟩,e⟩:=CZ fW lW;obtain ⟨H,c,fH,eH,qH⟩:=yV fA lA mA l;have pA:Ap.Pl' (s+1) (E A α):=lA ▸ Ap.Pl'.of fA;obtain ⟨S,d,fS,eS,lS⟩:=Ap.Pl'.comp (P:=R) (B:=C) pA;have eS:∀ x,E S d x=E R C (E A α x):=eS;have qW:q W w l=1:=by
  unfold q;rw [mW];have:=sQ fW.pos;grind
 have ls:l*s=s*(l-1)+s:=by
  obtain ⟨j,rfl⟩:∃ j,l=j+1:=⟨l-1,by omega⟩;rw [bK,bo,bQ]
 have b:s*(R.length-1)<=s*(l-1):=ak _ (by omega);have qe:=Ap.uI (u:=1) fG fH fS (fun x=>by rw [eG,e,eS,eR,eH,qW]) (l*s);rw [qH,tU (P:=S) (by omega)] at qe;have qe:q G U (l*s)=((1:Int):Rat) / ((1:Int):Rat):=by rw [qe];grind
 have:=(tR (aA fG.pos) (by decide)).mp qe;omega
theorem II {P G:List Int}{B U:Int}{k s:Nat}{c:Rat}{r:Rat->Rat}(k1:1<=k)(s1:1<=s)(fP:Po.Fm P B)(fG:Po.Fm G U)(lG:G.length=s+1)(mG:G.getD s 0=U)(hr:Ap.Pl' (k*s-s+1) r)(e:∀ x,E P B x=c*E G U x^k+r x):Ca.Sem P B k s G U:=by
 have ks:s<=k*s:=aQ _ k1;obtain ⟨H,C,fH,eH,qH⟩:=yV fG lG mG k;have hr':=hr;obtain ⟨S,d,fS,eS,lS⟩:=hr';have qe:=Ap.uI (u:=c) fP fH fS (fun x=>by rw [e,eH,eS]) (k*s);rw [qH,tU (P:=S) (by omega)] at qe;have qe:q P B (k*s)=c:=by rw [qe];grind
 exact ⟨r,hr,fun x=>by rw [qe];exact e x⟩
theorem Ha {P R A W G:List Int}{B C α w U:Int}{k l s:Nat}(k1:1<=k)(l1:1<=l)(s1:1<=s)(fP:Po.Fm P B)(fA:Po.Fm A α)(lA:A.length=s+1)(mA:A.getD s 0=α)(A0:A.getD 0 0=0)(fR:Po.Fm R C)(lR:R.length=k*l+1)(eP:∀ x,E P B x=E R C (E A α x))(cW:Cn R k l W w)(fG:Po.Fm G U)(eG:∀ x,E G U x=E W w (E A α x)):Cn P k (l*s) G U:=by
 obtain ⟨fW,lW,cW⟩:=cW;obtain ⟨mW,W0⟩:=v6 cW l1;have lG:=xR fW lW fA lA s1 fG eG;have mG:=ER fW lW l1 mW fA lA s1 mA fG eG;have ls1:1<=l*s:=g9 l1 s1;obtain ⟨r,⟨S,d,fS,eS,lS⟩,e⟩:=cW.sem fR lR fW lW k1 l1;have pA:Ap.Pl' (s+1) (E A α):=lA ▸ Ap.Pl'.of fA;have pr:Ap.Pl' (k*(l*s)-l*s+1) fun x=>r (E A α x):=((Ap.Pl'.comp (P:=S) (B:=d) pA).congr fun x=>eS _).mono (by
  have b:s*(S.length-1)<=s*(k*l-l):=ak _ (by omega);have b2:s*(k*l-l)=k*(l*s)-l*s:=by rw [Nat.mul_sub,show s*(k*l)=k*(l*s) by rw [bQ s,eI],bQ s l]
  omega)
 have sm:=II k1 ls1 fP fG lG mG pr (c:=q R C (k*l)) fun x=>by rw [eP,e,eG]
 refine ⟨fG,lG,sm.cand fP fG lG k1 ls1 mG ?_⟩;have z:q G U 0=((0:Int):Rat) / ((1:Int):Rat):=by
  have a0:E A α 0=0:=by
   rw [vE];unfold q;rw [A0];show (0:Rat) / _=0;grind
  rw [← vE,eG,a0,vE];unfold q;rw [show W.getD 0 0=0 from W0];show (0:Rat) / _=(0:Rat) / _;grind
 have:=(tR (aA fG.pos) (by decide)).mp z;omega
end Dp
namespace Dp
open PySem L2 Cv Hv Pc Qp
theorem Il {P:List Int}{k s:Nat}(k1:1<=k)(s1:1<=s)(hL:P.getD (k*s) 0≠0):∃ G U,Cn P k s G U:=by
 have km1:k<=k*s:=b9 _ s1;have km2:s<=k*s:=aQ _ k1;obtain ⟨c,hc⟩:∃ c:Int,c=(((P.getD (k*s) 0).natAbs:Nat):Int)*k*k:=⟨_,rfl⟩;have c0:0<c:=by
  rw [hc];have x1:0<(P.getD (k*s) 0).natAbs:=by omega
  exact az (az (by omega) (by omega)) (by omega)
 have fa:=Ca.Ia (P:=fun i=>P.getD i 0) (n:=k*s) (k:=k) (c:=c) rfl hL hc;obtain ⟨a,ea⟩:∃ a:Nat->Int,∀ j,a j=if j<=k*s then (P.getD (k*s-j) 0*c^j).fdiv (P.getD (k*s) 0) else 0:=⟨_,fun _=>rfl⟩;have a0:a 0=1:=by rw [ea,if_pos (aC _)];exact (fa 0 (aC _)).2.1 rfl
 have ad:∀ i,(k*k:Int)∣a (i+1):=fun i=>by
  rw [ea];by_cases z:i+1<=k*s
  ·rw [if_pos z];exact (fa _ z).2.2 (ga _)
  ·rw [if_neg z];exact gZ _
 obtain ⟨g,g0,gd,ge⟩:=Ca.root k1 (a:=a) a0 ad (s-1);obtain ⟨R,C,fR,w⟩:=Ap.has (F:=fun i=>if i=0 then 0 else if i<=s then g (s-i)*c^(i-1) else 0) (n:=s+1) (c:=c^(s-1)) (bS c0) (fun k hk=>by
  show (if k=0 then (0:Int) else if k<=s then g (s-k)*c^(k-1) else 0)=0;rw [if_neg (by omega),if_neg (by omega)])
 have hw':∀ j,j<s->R.getD (j+1) 0*c^(s-1)=g (s-(j+1))*c^j*C:=fun j hj=>by
  have:=w (j+1);rw [if_neg (Nat.succ_ne_zero _),if_pos (Nat.succ_le_of_lt hj)] at this;exact this
 have r1:=Ca.Kv (R:=fun i=>R.getD i 0) (g:=g) c0 hw';have r0:R.getD 0 0=0:=by
  have:=w 0;rw [if_pos rfl,aL] at this;exact (cy.mp this).resolve_right (cH (aA c0))
 have rm:R.getD s 0=C:=by
  have:=r1 0 s1;rw [aT,bh,g0,bV] at this;exact this
 have lR:R.length=s+1:=by
  have l1:R.length<=s+1:=Pc.tQ fR (bS c0) w fun k hk=>by
   show (if k=0 then (0:Int) else if k<=s then g (s-k)*c^(k-1) else 0)=0;rw [if_neg (by omega),if_neg (by omega)]
  rcases ao s R.length with x | x
  ·omega
  ·rw [sS x] at rm;have:=fR.pos;omega
 refine ⟨R,C,fR,lR,c,g,c0,g0,fun j hj=>?_,r1,r0⟩;have:=(fa j (by omega)).1;show P.getD (k*s-j) 0*c^j=P.getD (k*s) 0*Ca.pw g k j;rw [ge j (by omega),ea,if_pos (by omega)];exact this.symm
end Dp
namespace Dp
open PySem L2 Cv Hv Pc Qp
theorem Co {P R A:List Int}{B C α:Int}{k s:Nat}(s1:1<=s)(fP:Po.Fm P B)(lP:P.length=k*s+1)(fA:Po.Fm A α)(lA:A.length=s+1)(fR:Po.Fm R C)(e:∀ x,E P B x=E R C (E A α x)):R.length=k+1:=by
 rcases dA R.length with y | y
 ·have r0:R=[]:=cU.mp y;have:P=[]:=(tS fP Ap.xD fun x=>by rw [e,r0,Ap.v9,Ap.v9]).1;rw [this] at lP;simp at lP
 ·obtain ⟨d,hd⟩:∃ d,R.length=d+1:=⟨R.length-1,by omega⟩;have h:=xR fR hd fA lA s1 fP e;rw [lP] at h;have:d=k:=Nat.eq_of_mul_eq_mul_right s1 (by omega);omega
end Dp
namespace Dp
open PySem L2 Dt
theorem uv {α:Type}{xs:List α}{l:List D}{F G:α->D}{s0:SS}{g:TGd}{e:TEd}{Q:D->Prop}(el:l=xs.map F)(hl:xs.length<=16777216)(h:∀ x∈xs,g.run (F x) s0 fun s1=>e.run s1 fun y=>y=G x)(q:Q (.lst (xs.map G))):compD l s0 g i9 e Q:=by
 subst el;refine ⟨by rw [aa];exact vf hl,fun i ys=>ys=(xs.take i).map G,rfl,?_,?_⟩
 ·rintro i d ys hd _ rfl;rw [aO] at hd;obtain ⟨x,hx,rfl⟩:=ab.mp hd;refine g.mono (fun s1 w=>?_) (h x (aM hx));refine e.mono (fun y w=>?_) w;show (xs.take i).map G++[y]=_;rw [w,fJ,hx,bD];rfl
 ·rintro ys _ rfl;rw [aa,bM];exact q
end Dp
namespace Dp
open PySem L2 Dt Ch
theorem AN {ds:List D}{s0:SS}{g:TGd}{e:TEd}{Q:D->Prop}(W:Nat->D->Prop)(hl:ds.length<=16777216)(h:∀ i d,ds[i]? = some d->g.run d s0 fun s1=>e.run s1 (W i))(q:∀ ys:List D,ys.length=ds.length->(∀ i y,ys[i]? = some y->W i y)->Q (.lst ys)):compD ds s0 g i9 e Q:=by
 refine ⟨vf hl,fun i ys=>ys.length=i/\∀ j y,ys[j]? = some y->W j y,⟨rfl,fun j y h=>by cases h⟩,?_,?_⟩
 ·rintro i d ys hd _ ⟨l,hw⟩;refine g.mono (fun s1 w=>?_) (h i d hd);refine e.mono (fun y w=>?_) w;refine ⟨by rw [aD,l];rfl,fun j z hz=>?_⟩;rcases ao j ys.length with c | c
  ·rw [bx c] at hz;exact hw j z hz
  ·rw [bq c] at hz;obtain ⟨z1,z2⟩:=aj.mp hz;have e0:j-ys.length=0:=by simp at z1;omega
   have ej:j=i:=by omega
   subst ej;simp [e0] at hz;rw [← hz];exact w
 ·rintro ys _ ⟨l,hw⟩;exact q ys l hw
theorem Id {F:Nat->Int}{B:Int}{x:Rat}:∀ N,Qp.ei F x N / (B:Rat)=rs N fun j=>((F j:Int):Rat) / (B:Rat)*x^j
 | 0=>by show (0:Rat) / _=0;grind
 | N+1=>by
  show (Qp.ei F x N+(F N:Rat)*x^N) / (B:Rat)=rs N _+_;rw [← Id N];grind
theorem MP {P:List Int}{B:Int}{x:Rat}{N:Nat}(h:P.length<=N):Qp.E P B x=rs N fun j=>Qp.q P B j*x^j:=by
 rw [Qp.yb h,Id];rfl
end Dp
namespace Dp
open PySem L2
theorem GI {n:Int}(h0:0<=n)(h:n<2000000):Lt2 21 n:=by
 unfold Lt2;have:(2:Nat)^21=2097152:=by decide
 omega
def jj:SpB:=.of 2 (α:=Int×Nat) (fun (n,k) ds=>ds=[.int n,.int k]/\0<=n/\Lt2 20000 n/\1<=k/\k<=15) (fun (n,k) d=>∃ r,d = .int r/\Rt.Is n k r)
def j8:TSd:=(jq (jZ (dC (.bl true)))
 (dSq (iO [] (gNm 3) (iL .FloorDiv (iL .Add (iL .Mult (iL .Sub (iI 1) (dC (.int 1))) (iI 2)) (iL .FloorDiv (iI 0) (iK iM (iH (iI 2) (iH (iL .Sub (iI 1) (dC (.int 1))) iJ))))) (iI 1)))
 (dSq (dIf [] (iQ (iR .GtE (iI 3) (iI 2)))
 (iP [] (iI 2))
 iW)
 (iO [] (gNm 2) (iI 3)))))
def nk:TSd:=dSq (iO [] (gNm 2) (iL .LShift (dC (.int 1)) (iL .Add (iL .FloorDiv (pZ (iI 0)) (iI 1)) (dC (.int 1)))))
 j8
def po:TSd:=dSq (dIf [] (iQ (iR .Eq (iI 0) (dC (.int 0))))
 (iP [] (dC (.int 0)))
 iW)
 nk
theorem mN:Does 4 po jj:=by
 rintro ds Q hn ⟨⟨n,k⟩,⟨rfl,n0,ln,k1,k15⟩,q⟩;dsimp only at n0 ln k1 k15 q;refine xJ (p:=n=0) (fun c=>?_) (fun c=>?_)
 ·subst c;exact q _ ⟨0,rfl,Rt.Is.zero k1⟩
 have npos:0<n:=by omega
 have hb:Builtin.Int.intBits n<=20000:=PySem.intBits_le_iff.mpr ln;have hlt:n.natAbs<2^Builtin.Int.intBits n:=PySem.intBits_le_iff.mp (am _);refine ⟨n,rfl,?_⟩;generalize hbi:Builtin.Int.intBits n=b at *;obtain ⟨m,hdiv,hmk,hmb,hst⟩:∃ m:Nat,Int.fdiv (b:Int) (k:Int)=(m:Int)/\m*k<=b/\m<=b/\m=b / k:=⟨b / k,by rw [ce _ (by omega),Int.natCast_ediv],Nat.div_mul_le_self b k,dL _ _,rfl⟩;have hb2:(m+2)*k<=b+2*k:=by
  rw [gz];omega
 refine ⟨⟨by omega,21,GI (by omega) (by omega),by omega⟩,⟨by rw [hdiv];omega,by rw [hdiv];omega,by decide⟩,?_⟩;show j8.run (tf Q) [.val (.int n),.val (.int k),.val (.int (1*2^(Int.fdiv (b:Int) (k:Int)+1).toNat)),.no];rw [hdiv,show ((m:Int)+1).toNat=m+1 by omega];refine ⟨fun s=>∃ (t:Int) (o:SD),s=[.val (.int n),.val (.int k),.val (.int t),o]/\0<t/\t<=1*2^(m+1)/\∀ s:Int,0<=s->s^k<=n->s<=t,fun s=>match s with | [_,_,.val (.int t),_]=>t.toNat | _=>0,⟨_,.no,rfl,by rw [bV];exact Rt.pow_pos (by decide) _,dE _,fun s hs h=>by rw [hst];exact Rt.start k1 hlt hs h⟩,?_⟩;rintro _ ⟨t,o,rfl,t0,tb,hu⟩;have lt:Lt2 (m+2) t:=by
  show t.natAbs<2^(m+2);have e1:(2:Int)^(m+1)=((2^(m+1):Nat):Int):=by rw [cP];rfl
  have e2:(2:Nat)^(m+2)=2^(m+1)*2:=cZ ..;rw [bV,e1] at tb;have:=bA (n:=m+1) (show 0<2 by decide);omega
 have ek:(k:Int)-1=((k-1:Nat):Int):=by omega
 have hk1:(m+2)*(k-1)<=(m+2)*k:=ak _ (by omega);have hk2:(m+2+1)*(k-1+1)<=20003*15:=cb (by omega) (by omega);have lp:Lt2 ((m+2)*(k-1)+1) (t^(k-1)):=Hv.tx lt (k-1);have T:=Rt.pow_pos t0 (k-1);have fe:n.fdiv (t^(k-1))=n / t^(k-1):=ce _ (by omega);obtain ⟨N,hN⟩:∃ N,(((k:Int)-1)*t+n / t^(k-1)) / (k:Int)=N:=⟨_,rfl⟩;have fN:Int.fdiv (((k:Int)-1)*t+n.fdiv (t^(k-1))) (k:Int)=N:=by rw [fe,ce _ (by omega),hN]
 have nw:∀ s:Int,0<=s->s^k<=n->s<=N:=fun s hs h=>by rw [← hN];exact Rt.Jy k1 t0 hs h
 refine ⟨⟨21,m+2,GI (by omega) (by omega),lt,by omega⟩,rfl,(t,k-1,m+2),⟨?_,lt,by show k-1<=200;omega,by show (m+2+1)*(k-1+1)<=400000;omega⟩,?_⟩
 ·show [D.int t,.int ((k:Int)-1)]=_;rw [ek]
 rintro _ rfl;refine ⟨⟨by show t^(k-1)≠0;omega,_,lp,by omega⟩,⟨by omega,21,GI (by omega) (by omega),by omega⟩,?_⟩;have key:∀ z:Int,z=N->(dSq (dIf [] (iQ (iR .GtE (iI 3) (iI 2))) (iP [] (iI 2)) iW) (iO [] (gNm 2) (iI 3))).run ⟨fun s'=>(∃ (t:Int) (o:SD),s'=[.val (.int n),.val (.int k),.val (.int t),o]/\0<t/\t<=1*2^(m+1)/\∀ s:Int,0<=s->s^k<=n->s<=t)/\(match s' with | [_,_,.val (.int t),_]=>t.toNat | _=>0)<t.toNat,Q,fun _=>False,fun s'=>(∃ (t:Int) (o:SD),s'=[.val (.int n),.val (.int k),.val (.int t),o]/\0<t/\t<=1*2^(m+1)/\∀ s:Int,0<=s->s^k<=n->s<=t)/\(match s' with | [_,_,.val (.int t),_]=>t.toNat | _=>0)<t.toNat⟩ [.val (.int n),.val (.int k),.val (.int t),.val (.int z)]:=by
  rintro N rfl;refine xJ (p:=t<=N) (fun c=>q _ ⟨t,rfl,Rt.stop k1 t0 hu (by rw [hN];exact c)⟩) (fun c=>?_);have:=nw 1 (by decide) (by rw [cY];omega);refine ⟨⟨N,_,rfl,by omega,by omega,nw⟩,?_⟩;show N.toNat<t.toNat;omega
 exact key _ fN
def qr:SpB:=.of 2 (α:=Int×Int×Nat) (fun (t,b,k) ds=>ds=[fD t b,.int k]/\0<b/\Int.gcd t b=1/\Lt2 20000 t/\Lt2 20000 b/\1<=k/\k<=15) (fun (t,b,k) d=>∃ fs,d = .lst (FS fs)/\Rt.RtV t b k fs)
def rD:TSd:=(iP [] (iY (iH (iZ (iH (mr (iI 4)) (iH (iI 5) iJ))) (iH (iZ (iH (iI 4) (iH (iI 5) iJ))) iJ))))
def rE:TSd:=dSq (dIf [] (iQ (iR .Eq (iI 4) (dC (.int 0))))
 (iP [] (iY (iH (iZ (iH (dC (.int 0)) (iH (dC (.int 1)) iJ))) iJ)))
 iW)
 rD
def rF:TSd:=dSq (dIf [] (iQ (iR .Eq (iL .Mod (iI 1) (dC (.int 2))) (dC (.int 1))))
 (iP [] (iY (iH (iZ (iH (qJ (iQ (iR .Lt (iI 2) (dC (.int 0)))) (mr (iI 4)) (iI 4)) (iH (iI 5) iJ))) iJ)))
 iW)
 rE
def oE:TSd:=dSq (dIf [] (kG (iQ (iR .NotEq (iK iM (iH (iI 4) (iH (iI 1) iJ))) (dB bAbs bAbs.mono (iH (iI 2) iJ)))) (iQ (iR .NotEq (iK iM (iH (iI 5) (iH (iI 1) iJ))) (iI 3))))
 (iP [] (iY iJ))
 iW)
 rF
def oF:TSd:=dSq (mt [] 4 5 (iK jj (iH (dB bAbs bAbs.mono (iH (iI 2) iJ)) (iH (iI 1) iJ))) (iK jj (iH (iI 3) (iH (iI 1) iJ))))
 oE
def oG:TSd:=dSq (dIf [] (kr (iQ (iR .Lt (iI 2) (dC (.int 0)))) (iQ (iR .Eq (iL .Mod (iI 1) (dC (.int 2))) (dC (.int 0)))))
 (iP [] (iY iJ))
 iW)
 oF
def sx:TSd:=dSq (iO [] (gTp [2,3]) (iI 0))
 oG
theorem zY (t:Int):(if t<0 then -t else t)=((t.natAbs:Nat):Int):=by split <;> omega
theorem HU {n r:Int}{k M:Nat}(h:Rt.Is n k r)(k1:1<=k)(n0:0<=n)(l:Lt2 M n):Lt2 M r:=l.le (by
 have:=h.self k1 n0;have:=h.pos;omega)
theorem IL {t b o u:Int}{k:Nat}{Q:D->Prop}(k1:1<=k)(k15:k<=15)(b0:0<b)(ho:Rt.Is ((t.natAbs:Nat):Int) k o)(hu:Rt.Is b k u)(lo:Lt2 20000 o)(lu:Lt2 20000 u)(hne:¬ (t<0/\k%2=0))(hg:Int.gcd t b=1)(q:∀ d,(∃ fs,d = .lst (FS fs)/\Rt.RtV t b k fs)->Q d) :
  oE.run (tf Q) [.val (fD t b),.val (.int (k:Nat)),.val (.int t),.val (.int b),.val (.int o),.val (.int u)]:=by
 have km:Int.fmod ((k:Nat):Int) 2=((k%2:Nat):Int):=by rw [dh _ (by omega)];omega
 have sz:∀ {n:Int},Lt2 20000 n->(20000+1)*(k+1)<=400000:=fun _=>by
  have:20001*(k+1)<=20001*16:=ak _ (by omega);omega
 refine ⟨rfl,(o,k,20000),⟨rfl,lo,by show k<=200;omega,sz lo⟩,?_⟩;rintro _ rfl;refine LK (p:=o^k=if t<0 then -t else t) (fun c=>?_) (fun c1=>?_)
 ·rw [zY] at c;exact ⟨aC _,q _ ⟨[],rfl,o,u,ho,hu,by rw [if_pos (.inr (.inl c))]⟩⟩
 ·rw [zY] at c1;refine ⟨rfl,(u,k,20000),⟨rfl,lu,by show k<=200;omega,sz lu⟩,?_⟩;rintro _ rfl;refine LK (p:=u^k=b) (fun c=>⟨aC _,q _ ⟨[],rfl,o,u,ho,hu,by rw [if_pos (.inr (.inr c))]⟩⟩) (fun c2=>?_);have hno:¬ ((t<0/\k%2=0)\/o^k≠((t.natAbs:Nat):Int)\/u^k≠b):=by
   rintro (z | z | z)
   ·exact hne z
   ·exact z c1
   ·exact z c2
  refine ⟨by decide,?_⟩;refine xJ (p:=Int.fmod ((k:Nat):Int) 2=1) (fun c=>?_) (fun c=>?_)
  ·rw [km] at c;refine xJ (p:=t<0) (fun ct=>?_) (fun ct=>?_)
   ·exact ⟨ur,Ba,q _ ⟨[(-o,u)],rfl,o,u,ho,hu,by rw [if_neg hno,if_pos ct]⟩⟩
   ·exact ⟨ur,Ba,q _ ⟨[(o,u)],rfl,o,u,ho,hu,by rw [if_neg hno,if_neg ct,if_neg (by omega)]⟩⟩
  ·rw [km] at c;have k2:k%2=0:=by omega
   have t0:¬ t<0:=fun z=>hne ⟨z,k2⟩;refine xJ (p:=o=0) (fun co=>?_) (fun co=>?_)
   ·refine ⟨ur,Ba,q _ ⟨[(0,1)],rfl,o,u,ho,hu,?_⟩⟩;rw [if_neg hno,if_neg t0,if_neg (by omega)];have tz:t=0:=by
     have z:o^k=0:=by rw [co];exact Int.zero_pow (by omega)
     rw [c1] at z;omega
    rw [tz,Int.gcd_zero_left] at hg;have bz:b=1:=by omega
    rw [bz] at hu;rw [co,hu.uniq (Rt.Is.one k1)]
   ·have:=ho.pos;exact ⟨ur,ur,ur,q _ ⟨[(-o,u),(o,u)],rfl,o,u,ho,hu,by rw [if_neg hno,if_neg t0,if_pos ⟨k2,by omega⟩]⟩⟩
theorem qY:Does 6 sx qr:=by
 rintro ds Q hn ⟨⟨t,b,k⟩,⟨rfl,b0,hg,lt,lb,k1,k15⟩,q⟩;dsimp only at b0 hg lt lb k1 k15 q;have km:Int.fmod ((k:Nat):Int) 2=((k%2:Nat):Int):=by rw [dh _ (by omega)];omega
 obtain ⟨o0,ho0⟩:=Rt.has (n:=((t.natAbs:Nat):Int)) k1 (by omega);obtain ⟨u0,hu0⟩:=Rt.has (n:=b) k1 (by omega);have go:¬ (t<0/\k%2=0)->oF.run (tf Q) [.val (fD t b),.val (.int (k:Nat)),.val (.int t),.val (.int b),.no,.no]:=fun hne=>by
  have la:Lt2 20000 ((t.natAbs:Nat):Int):=lt;refine ⟨rfl,(((t.natAbs:Nat):Int),k),⟨by show [D.int (if t<0 then -t else t),.int (k:Nat)]=_;rw [zY],by show (0:Int)<=((t.natAbs:Nat):Int);omega,la,k1,k15⟩,?_⟩;rintro _ ⟨o,rfl,ho⟩;refine ⟨rfl,(b,k),⟨rfl,by show 0<=b;omega,lb,k1,k15⟩,?_⟩;rintro _ ⟨u,rfl,hu⟩;exact IL k1 k15 b0 ho hu (HU ho k1 (by omega) la) (HU hu k1 (by omega) lb) hne hg q
 refine ⟨rfl,?_⟩;show oG.run (tf Q) [.val (fD t b),.val (.int (k:Nat)),.val (.int t),.val (.int b),.no,.no];refine xJ (p:=t<0) (fun ct=>?_) (fun ct=>go fun z=>ct z.1);refine ⟨by decide,?_⟩;refine xJ (p:=Int.fmod ((k:Nat):Int) 2=0) (fun c=>?_) (fun c=>go fun z=>c (by rw [km,z.2];rfl));rw [km] at c;exact ⟨aC _,q _ ⟨[],rfl,o0,u0,ho0,hu0,by rw [if_pos (.inl ⟨ct,by omega⟩)]⟩⟩
end Dp
namespace Dp
open PySem L2 Dt
theorem Al {x y:Int}(h:Int.gcd x y=1)(k:Nat):Int.gcd (x^k) (y^k)=1:=by
 have e:Int.gcd (x^k) (y^k)=Nat.gcd (x.natAbs^k) (y.natAbs^k):=by
  show Nat.gcd (x^k).natAbs (y^k).natAbs=_;rw [cE,cE]
 rw [e];exact Nat.Coprime.pow k k h
theorem Bw {x y:Int}{k:Nat}(k1:1<=k)(h:Int.gcd (x^k) (y^k)=1):Int.gcd x y=1:=by
 have e:Int.gcd (x^k) (y^k)=Nat.gcd (x.natAbs^k) (y.natAbs^k):=by
  show Nat.gcd (x^k).natAbs (y^k).natAbs=_;rw [cE,cE]
 rw [e] at h;have d1:Nat.gcd x.natAbs y.natAbs∣Nat.gcd (x.natAbs^k) (y.natAbs^k):=by
  refine Nat.dvd_gcd ?_ ?_
  ·exact fv (Nat.gcd_dvd_left _ _) (by
    obtain ⟨j,rfl⟩:∃ j,k=j+1:=⟨k-1,by omega⟩;rw [cZ];exact dj _ _)
  ·exact fv (gm _ _) (by
    obtain ⟨j,rfl⟩:∃ j,k=j+1:=⟨k-1,by omega⟩;rw [cZ];exact dj _ _)
 rw [h] at d1;exact Nat.dvd_one.mp d1
theorem Cc {x y:Int}(hy:0<y)(k:Nat):((x:Rat) / (y:Rat))^k=((x^k:Int):Rat) / ((y^k:Int):Rat):=by
 have h1:=Qp.xa (x:Rat) (Qp.sQ hy) k;have h2:=Qp.uA (Qp.sQ hy) k;rw [dc,dc,← h1];generalize (y:Rat)^k=z at *;grind
theorem xY {x:Int}(k:Nat):(((x.natAbs:Nat):Int))^k=(((x^k).natAbs:Nat):Int):=by
 rw [cE,cP]
theorem Ay {o:Int}{k:Nat}(k1:1<=k)(h0:0<=o):Rt.Is (o^k) k o:=Rt.Is.of k1 h0 (dE _) (Rt.tx h0 (by omega) k1)
theorem wQ (x:Int){k:Nat}(h:k%2=0):0<=x^k:=by
 obtain ⟨j,rfl⟩:∃ j,k=j+j:=⟨k / 2,by omega⟩;rw [cQ];generalize x^j=y;rcases Int.le_total 0 y with c | c
 ·exact dG c c
 ·have:=dG (a:=-y) (b:=-y) (by omega) (by omega);rw [gC] at this;exact this
theorem xx {t b:Int}{k:Nat}{fs:List (Int×Int)}{x y:Int}(h:Rt.RtV t b k fs)(k1:1<=k)(b0:0<b)(hg:Int.gcd t b=1)(y0:0<y)(hxy:Int.gcd x y=1)(e:((x:Rat) / (y:Rat))^k=(t:Rat) / (b:Rat)):(x,y)∈fs:=by
 have yk:0<y^k:=bS y0;rw [Cc y0] at e;have e':=(Qp.tR (aA yk) (aA b0)).mp e;obtain ⟨y1,y2⟩:=Fr.uniq (t:=x^k) (b:=y^k) (by omega) b0 hg e';obtain ⟨y3,y4⟩:=Fr.uniq (t:=x^k) (b:=y^k) (c:=x^k) (d:=y^k) (by omega) yk (Al hxy k) rfl;have et:x^k=t:=y3.symm.trans y1;have eb:y^k=b:=y4.symm.trans y2;obtain ⟨o,u,ho,hu,rfl⟩:=h;have eo:o=((x.natAbs:Nat):Int):=by
  refine ho.uniq ?_;rw [← et,← xY];exact Ay k1 (by omega)
 have eu:u=y:=by
  refine hu.uniq ?_;rw [← eb];exact Ay k1 (by omega)
 have o0:0<=o:=ho.pos;rw [if_neg]
 ·by_cases ct:t<0
  ·rw [if_pos ct];have kodd:k%2=1:=by
    rcases gI k with c | c
    ·have:=wQ x c;omega
    ·exact c
   have xn:x<0:=by
    rcases (show x<0\/0<=x by omega) with c | c
    ·exact c
    ·have:=Rt.wg c k;omega
   rw [eo,eu,show -((x.natAbs:Nat):Int)=x by omega];exact av.mpr rfl
  ·rw [if_neg ct];by_cases c2:k%2=0/\0<o
   ·rw [if_pos c2,eu];rcases (show x<0\/0<=x by omega) with c | c
    ·rw [show x = -o by omega];exact ar
    ·rw [show x=o by omega];exact aw _ (av.mpr rfl)
   ·rw [if_neg c2,eu];have xe:x=o:=by
     rcases (show x<0\/0<=x by omega) with c | c
     ·exfalso;have op:0<o:=by omega
      have kodd:k%2=1:=by
       rcases gI k with c' | c'
       ·exact absurd ⟨c',op⟩ c2
       ·exact c'
      have e1:=Rt.xg (-x) k;rw [Int.neg_neg,if_neg (by omega)] at e1;have:=Rt.pow_pos (show 0 < -x by omega) k;omega
     ·omega
    rw [xe];exact av.mpr rfl
 ·rintro (⟨z1,z2⟩ | z | z)
  ·have:=wQ x z2;omega
  ·apply z;rw [eo,← et,xY]
  ·apply z;rw [eu,eb]
theorem Ah {t b:Int}{k:Nat}{fs:List (Int×Int)}{f:Int×Int}(h:Rt.RtV t b k fs)(k1:1<=k)(b0:0<b)(hg:Int.gcd t b=1)(hf:f∈fs):0<f.2/\Int.gcd f.1 f.2=1/\((f.1:Rat) / (f.2:Rat))^k=(t:Rat) / (b:Rat):=by
 obtain ⟨e1,e2,_⟩:=h.root f hf;have p:0<f.2:=by
  obtain ⟨o,u,ho,hu,rfl⟩:=h;have u0:=hu.pos;have:f.2=u\/False:=by
   split at hf
   ·cases hf
   ·split at hf
    ·rw [av.mp hf];exact .inl rfl
    ·split at hf
     ·rcases au.mp hf with z | z
      ·rw [z];exact .inl rfl
      ·rw [av.mp z];exact .inl rfl
     ·rw [av.mp hf];exact .inl rfl
  rcases this with z | z
  ·rcases iA u0 with c | c
   ·omega
   ·rw [z,← c] at e2;obtain ⟨j,rfl⟩:∃ j,k=j+1:=⟨k-1,by omega⟩;rw [aI,bw] at e2;omega
  ·exact z.elim
 refine ⟨p,Bw k1 (by rw [e1,e2];exact hg),?_⟩;rw [Cc p,e1,e2]
end Dp
namespace Dp
open PySem L2
def Wt (y:Nat)(R:List Int)(C:Int)(s:Nat):Prop:=∀ j,j<=s->(R.getD (s-j) 0).natAbs<=C.natAbs*2^(y*j)
theorem Wt.pz {y b s:Nat}{R:List Int}{C:Int}(h:Wt y R C s)(fm:Po.Fm R C)(l:R.length=s+1)(hb:Lt2 b C):Pc.Pz (b+y*s) b R C:=by
 refine ⟨fm,fun i=>?_,hb⟩;rcases ao s i with z | z
 ·rw [sS (by omega)];exact wC _
 ·have w:=h (s-i) (by omega);rw [show s-(s-i)=i by omega] at w;have p:2^(y*(s-i))<=2^(y*s):=bE (by decide) (ak _ (by omega));have hb:C.natAbs<2^b:=hb;show (R.getD i 0).natAbs<2^(b+y*s);rw [dY];exact b8 w (b8 (ak _ p) (dO hb (bA (by decide))))
def j9:SpB:=.of 2 (α:=List Int×Int×Nat×Nat×Nat×Nat) (fun (P,B,k,s,M,Z) ds=>ds=[pD P B,.int s]/\P.length=k*s+1/\1<=k/\1<=s/\k*s<=16/\k<=15/\(∀ i,Lt2 M (P.getD i 0))/\Lt2 Z (P.getD (k*s) 0)/\M+(Z+8)*(k*s)<=99000/\Z<=20001/\P.getD (k*s) 0≠0)
 (fun (P,B,k,s,M,Z) d=>∃ R C,d=pD R C/\Cn P k s R C/\Wt (M+(Z+8)*(k*s)+24) R C s/\C.natAbs<=((P.getD (k*s) 0).natAbs*k*k)^(s-1))
theorem lQ:Does 9 qj j9:=by
 rintro ds Q hn ⟨⟨ts,b,k,m,M,Z⟩,⟨rfl,ln,k1,m1,km,k15,hM,hZ,hz,Z3,hL⟩,q⟩;dsimp only at ln k1 m1 km k15 hM hZ hz Z3 hL q;have km1:k<=k*m:=b9 _ m1;have km2:m<=k*m:=aQ _ k1;refine ⟨rfl,(ts,b),rfl,?_⟩;rintro _ rfl;have ek:((k*m:Nat):Int).fdiv (m:Int)=(k:Int):=by
  rw [show ((k*m:Nat):Int)=(k:Int)*m by push_cast;rfl];exact dN _ (by omega)
 have lk:Lt2 4 ((k:Nat):Int):=by unfold Lt2;omega
 have lm:Lt2 7 ((m:Nat):Int):=by unfold Lt2;omega
 have ll:Lt2 Z (((ts.getD (k*m) 0).natAbs:Nat):Int):=hZ.le (by rw [bj];exact am _);suffices h1:jG.run (tf Q) [.val (pD ts b),.val (.int m),.val (.int ((k*m:Nat):Int)),.no,.no,.no,.no,.no,.no] by
  show jG.run (tf Q) [.val (pD ts b),.val (.int m),.val (.int ((ts.length:Int)-1)),.no,.no,.no,.no,.no,.no];rw [ln,show ((k*m+1:Nat):Int)-1=((k*m:Nat):Int) by omega];exact h1
 refine ⟨⟨by omega,7,lm,by decide⟩,?_⟩;suffices h2:jF.run (tf Q) [.val (pD ts b),.val (.int m),.val (.int ((k*m:Nat):Int)),.val (.int k),.no,.no,.no,.no,.no] by
  show jF.run (tf Q) [.val (pD ts b),.val (.int m),.val (.int ((k*m:Nat):Int)),.val (.int (((k*m:Nat):Int).fdiv (m:Int))),.no,.no,.no,.no,.no];rw [ek];exact h2
 obtain ⟨c,hc⟩:∃ c:Int,c=(((ts.getD (k*m) 0).natAbs:Nat):Int)*k*k:=⟨_,rfl⟩;have lc:Lt2 (Z+8) c:=by rw [hc];exact ((ll.mul lk).mul lk).mono (by omega)
 have m100:(Z+8+1)*(k*m+1)<=(Z+9)*17:=ak _ (by omega);suffices h3:jE.run (tf Q) [.val (pD ts b),.val (.int m),.val (.int ((k*m:Nat):Int)),.val (.int k),.val (.int c),.no,.no,.no,.no] by
  refine ul (tI (by omega)) ⟨(congrArg (CMulB · _) (uG _)).mpr ⟨_,_,ll,lk,by omega⟩,(congrArg (fun z=>CMulB (z*_) _) (uG _)).mpr ⟨_,_,ll.mul lk,lk,by omega⟩,?_⟩;show jE.run (tf Q) [.val (pD ts b),.val (.int m),.val (.int ((k*m:Nat):Int)),.val (.int k),.val (.int ((if ts.getD (k*m) 0<0 then -(ts.getD (k*m) 0) else ts.getD (k*m) 0)*k*k)),.no,.no,.no,.no];rw [uG,← hc];exact h3
 refine ⟨rfl,(ts,c,k*m,M,Z+8,Z),⟨rfl,ln,by show k*m<=100;omega,hM,lc,by show M<=1000000;omega,hZ,by show Z<=9000000;omega,by show (Z+8+1)*(k*m+1)<=400000;omega,hL⟩,?_⟩;rintro _ ⟨rs,rfl,lrs,hrs⟩;suffices h4:jD.run (tf Q) [.val (pD ts b),.val (.int m),.val (.int ((k*m:Nat):Int)),.val (.int k),.val (.int c),.val (.lst (rs.reverse.map .int)),.no,.no,.no] by
  show jD.run (tf Q) [.val (pD ts b),.val (.int m),.val (.int ((k*m:Nat):Int)),.val (.int k),.val (.int c),.val (.lst (rs.map D.int).reverse),.no,.no,.no];rw [← iE];exact h4
 have fa:=Ca.Ia (P:=fun i=>ts.getD i 0) (n:=k*m) (k:=k) (c:=c) rfl hL hc;have ea:∀ j,j<=k*m->rs.reverse.getD j 0=(ts.getD (k*m-j) 0*c^j).fdiv (ts.getD (k*m) 0):=fun j hj=>by
  rw [D9 lrs hj,hrs _ (by omega),show k*m-(k*m-j)=j by omega]
 have lr:rs.reverse.length=k*m+1:=by rw [bO,lrs]
 have a0:rs.reverse.getD 0 0=1:=by rw [ea 0 (aC _)];exact (fa 0 (aC _)).2.1 rfl
 have ad:∀ i,(k*k:Int)∣rs.reverse.getD (i+1) 0:=fun i=>by
  rcases ao (k*m) (i+1) with z | z
  ·rw [sS (by omega)];exact gZ _
  ·rw [ea _ z];exact (fa _ z).2.2 (ga _)
 have al:∀ i,Lt2 (M+(Z+8)*(k*m)+1) (rs.reverse.getD i 0):=fun i=>by
  rcases ao (k*m) i with z | z
  ·rw [sS (by omega)];exact wC _
  ·rw [ea _ z];refine GV hL (fa _ z).1 (((hM _).mul (Hv.tx lc i)).mono ?_);have:(Z+8)*i<=(Z+8)*(k*m):=ak _ z;omega
 obtain ⟨g,g0,gd,ge⟩:=Ca.root k1 (a:=fun i=>rs.reverse.getD i 0) a0 ad (m-1);refine ⟨rfl,(rs.reverse,k,m,M+(Z+8)*(k*m)+1,g),⟨rfl,k1,by show k<=100;omega,m1,by show m<=100;omega,by omega,by show M+(Z+8)*(k*m)+1<=100000;omega,al,a0,g0,ge⟩,?_⟩;rintro _ ⟨us,rfl,lu,hus,hul⟩;generalize hA:M+(Z+8)*(k*m)+1=A at *;have c0:0<c:=by
  rw [hc];have x1:0<(ts.getD (k*m) 0).natAbs:=by omega
  exact az (az (by omega) (by omega)) (by omega)
 have zc:(Z+8+1)*(m+1)<=(Z+9)*17:=ak _ (by omega);have lq:(ve 1 ((m:Int)+1-1).toNat).length=m:=by rw [tq];omega
 refine ⟨⟨by omega,by omega,by omega,by omega⟩,(congrArg (· <= sizeLine) lq).mpr (vf (by omega)),nI (fun j=>g (m-(j+1))*c^j),nI.nil,fun i d ys hd _ hy=>?_,fun ys _ hy=>?_⟩
 ·obtain ⟨hi,rfl⟩:=tK hd;have hi:i<m:=by omega
  have e1:(1:Int)+(i:Int)=((i+1:Nat):Int):=by omega
  rw [e1];have em:(m:Int)-((i+1:Nat):Int)=((m-(i+1):Nat):Int):=by omega
  have zi:(Z+8)*i<=(Z+8+1)*(m+1):=cb (by omega) (by omega);have zg:(A+22)*(m-(i+1))<=(A+22)*100:=ak _ (by omega);refine uD (d:=.int (g (m-(i+1)))) ?_ ⟨rfl,(c,i,Z+8),⟨?_,lc,by show i<=200;omega,?_⟩,?_⟩
  ·rw [em,← hus (m-(i+1)) (by omega)];exact va (tI (by omega))
  ·show [D.int c,.int (((i+1:Nat):Int)-1)]=[D.int c,.int (i:Int)];rw [show ((i+1:Nat):Int)-1=(i:Int) by omega]
  ·exact aH (ak _ (show i+1<=m+1 by omega)) (by omega)
  ·rintro _ rfl;exact ⟨⟨_,_,hul (m-(i+1)) (by omega),Hv.tx lc i,by omega⟩,hy.snoc rfl⟩
 have hy:nI _ (ve 1 ((m:Int)+1-1).toNat).length ys:=hy;rw [lq] at hy;obtain ⟨ws,rfl,lw,hws⟩:=hy;have z2:(Z+8)*(m-1)<=(Z+8)*16:=ak _ (by omega);have lcm:Lt2 9000000 (c^(m-1)):=(Hv.tx lc (m-1)).mono (by omega);have pc:0<c^(m-1):=bS c0;refine ⟨Ba,(congrArg (fun n=>1+n<=sizeLine) (aa _)).mpr (vf (by omega)),rfl,(c,m-1,Z+8),⟨?_,lc,by show m-1<=200;omega,?_⟩,?_⟩
 ·show [D.int c,.int ((m:Int)-1)]=[D.int c,.int ((m-1:Nat):Int)];rw [show (m:Int)-1=((m-1:Nat):Int) by omega]
 ·exact aH (ak _ (show m-1+1<=m+1 by omega)) (by omega)
 rintro _ rfl;refine ⟨rfl,(0::ws,c^(m-1)),⟨rfl,pc,lcm,by rw [bg];omega⟩,?_⟩;rintro _ ⟨R,C,rfl,fm,hw,hle⟩;have hw':∀ j,j<m->R.getD (j+1) 0*c^(m-1)=g (m-(j+1))*c^j*C:=fun j hj=>by
  have:=hw (j+1);rw [cI,hws j hj] at this;exact this
 have r1:=Ca.Kv (R:=fun i=>R.getD i 0) (g:=g) c0 hw';have r0:R.getD 0 0=0:=by
  have:=hw 0;rw [fk,aL] at this;exact (cy.mp this).resolve_right (by omega)
 have rm:R.getD m 0=C:=by
  have:=r1 0 m1;rw [aT,bh,g0,bV] at this;exact this
 have lR:R.length=m+1:=by
  have l1:R.length<=m+1:=by rw [bg,lw] at hle;exact hle
  rcases ao m R.length with x | x
  ·omega
  ·rw [sS x] at rm;have:=fm.pos;omega
 refine q _ ⟨R,C,rfl,⟨fm,lR,c,g,c0,g0,fun j hj=>?_,r1,r0⟩,fun j hj=>?_,?_⟩
 ·have:=(fa j (by omega)).1;rw [ge j (by omega),ea j (by omega)];exact this.symm
 ·rcases ao j m with x | x
  ·have e:=congrArg Int.natAbs (r1 j x);rw [aR,aR,cE] at e;have e:(R.getD (m-j) 0).natAbs*c.natAbs^j=(g j).natAbs*C.natAbs:=e;have cj:1<=c.natAbs^j:=bA (by omega);have gj:(g j).natAbs<=2^((M+(Z+8)*(k*m)+24)*j):=by
    rcases dA j with y | y
    ·rw [y,g0];exact am 1
    ·have h:=hul j x;refine aH (gk h) (bE (by decide) ?_);have:(A+22)*j+j=(A+23)*j:=(bo (A+22) j ▸ rfl);rw [show M+(Z+8)*(k*m)+24=A+23 by omega];omega
   calc (R.getD (m-j) 0).natAbs<=(R.getD (m-j) 0).natAbs*c.natAbs^j:=b9 _ cj
    _=C.natAbs*(g j).natAbs:=by rw [e,bQ]
    _<=_:=ak _ gj
  ·rw [show m-j=0 by omega,r0];exact aC _
 ·have e:=(Po.size fm pc hw).1;rw [cE,hc,aR,aR,bj,bj] at e;exact e
end Dp
namespace Dp
open PySem L2
def jL:SpB:=.of 1 (α:=List Int×Nat×Nat×Nat) (fun (ts,n,M,Z) ds=>ds=[.tup (ts.map .int)]/\ts.length=n+1/\n<=20/\(∀ i,Lt2 M (ts.getD i 0))/\M<=1000000/\Lt2 Z (ts.getD n 0)/\(Z+1)*(n+2)<=390000/\ts.getD n 0≠0)
 (fun (ts,n,M,Z) d=>∃ c:Int,d = .int c/\0<c/\Lt2 Z c/\∀ j,j<=n->ts.getD n 0∣ts.getD (n-j) 0*c^j)
theorem kB:Does 5 mM jL:=by
 rintro ds Q hn ⟨⟨ts,n,M,Z⟩,⟨rfl,ln,n20,hM,M3,hZ,Z9,hL⟩,q⟩;dsimp only at ln n20 hM M3 hZ Z9 hL q;have Zl:Z+1<=(Z+1)*(n+2):=b9 _ (by omega);obtain ⟨m,hm⟩:∃ m:Int,m=(((ts.getD n 0).natAbs:Nat):Int):=⟨_,rfl⟩;have m0:0<m:=by omega
 have lm:Lt2 Z m:=by rw [hm];exact hZ.le (by rw [bj];exact am _)
 have dv:∀ y:Int,m∣y↔ts.getD n 0∣y:=fun y=>by rw [hm];exact Int.natAbs_dvd
 have small:∀ c:Int,0<c->c∣m->Lt2 Z c:=fun c c0 hc=>lm.le (cR (by omega) (bc.mpr hc));suffices h1:jf.run (tf Q) [.val (.tup (ts.map .int)),.val (.int n),.val (.int m),.no,.no] by
  refine uD (FI (j:=1) (n:=n+1) (v:=.int (ts.getD n 0)) (tI (by omega)) (by rw [aa,ln]) (by decide) (by omega)) ?_;show jf.run (tf Q) [.val (.tup (ts.map .int)),.val (.int (((ts.map D.int).length:Int)-1)),.val (.int (if ts.getD n 0<0 then -(ts.getD n 0) else ts.getD n 0)),.no,.no];rw [aa,ln,show ((n+1:Nat):Int)-1=(n:Int) by omega,uG,← hm];exact h1
 have en:((n:Int)+1-1).toNat=n:=by omega
 refine ⟨⟨by omega,by omega,by omega,by omega⟩,fun i s=>∃ (c:Int) (o:SD),s=[.val (.tup (ts.map .int)),.val (.int n),.val (.int m),.val (.int c),o]/\0<c/\c∣m/\∀ j,j<=i->ts.getD n 0∣ts.getD (n-j) 0*c^j,⟨1,.no,rfl,by decide,Int.one_dvd _,fun j hj=>?_⟩,?_,?_⟩
 ·rw [show j=0 by omega,bZ];exact dI _ _
 ·rintro i d _ hd ⟨c,o,rfl,c0,cm,hj⟩;obtain ⟨hi,rfl⟩:=tK hd;have hi:i<n:=by omega
  have e1:(1:Int)+(i:Int)=((i+1:Nat):Int):=by omega
  rw [e1];have em:(n:Int)-((i+1:Nat):Int)=((n-(i+1):Nat):Int):=by omega
  have lc:=small c c0 cm;have b2:(Z+1)*(i+1+1)<=(Z+1)*(n+2):=ak _ (by omega);have b3:Z*(i+1)<=(Z+1)*(n+2):=cb (by omega) (by omega);refine uD (d:=.int (ts.getD (n-(i+1)) 0)) (by rw [em];exact va (tI (by omega))) ⟨rfl,(c,i+1,Z),⟨rfl,lc,by omega,by omega⟩,?_⟩;rintro _ rfl;refine ⟨⟨_,_,hM _,Hv.tx lc (i+1),by omega⟩,rfl,(m,ts.getD (n-(i+1)) 0*c^(i+1)),rfl,?_⟩;rintro _ rfl;dsimp only;have g0:=uX (a:=m) (b:=ts.getD (n-(i+1)) 0*c^(i+1)) (by omega);have gd:=(vI m (ts.getD (n-(i+1)) 0*c^(i+1))).1;obtain ⟨e,q0,ql⟩:=tE g0 m0 gd;have nx:=Fb (x:=ts.getD (n-(i+1)) 0*c^(i+1)) m0;have gl:(Fr.cp m (ts.getD (n-(i+1)) 0*c^(i+1))).natAbs<=m.natAbs:=cR (by omega) (bc.mpr gd);have lq:=lm.le ql;have cx:c∣ts.getD (n-(i+1)) 0*c^(i+1):=gO ⟨c^i,by rw [aI,bt]⟩;refine ⟨⟨by omega,Z,lm.le gl,by omega⟩,⟨_,_,lc,lq,by omega⟩,_,_,rfl,az c0 q0,DU m0 cm cx,fun j hj'=>?_⟩;generalize m.fdiv (Fr.cp m (ts.getD (n-(i+1)) 0*c^(i+1)))=y at *;rw [hX,← bY];rcases cC hj' with z | z
  ·subst z;have ey:y^(i+1)=y*y^i:=by rw [aI,bt]
   rw [ey,← bY];exact eV ((dv _).mp nx)
  ·exact eV (hj j (by omega))
 ·rintro _ ⟨c,o,rfl,c0,cm,hj⟩;rw [tq,en] at hj;exact q _ ⟨c,rfl,c0,small c c0 cm,hj⟩
def ka:SpB:=.of 2 (α:=List Int×List Int×Nat×Nat×Nat×Nat) (fun (L,b,s,N,A,w) ds=>ds=[.lst (L.map .int),.lst (b.map .int)]/\b.length=s+1/\b.getD s 0=1/\1<=s/\s<=100/\L.length<=N+1/\N<=100/\(∀ i,Lt2 (A+w*(N-i)) (L.getD i 0))/\(∀ i,i<=s->Lt2 (w*(s-i)+1) (b.getD i 0))/\A+w*N<=40000000)
 (fun (L,b,s,N,A,w) d=>∃ K R:List Int,d = .tup [.lst (K.map .int),.lst (R.map .int)]/\K.length=L.length-s/\R.length=min L.length s/\(∀ k,L.getD k 0=R.getD k 0+Cv.cv (Cv.fn K) (Cv.fn b) k)/\(∀ i,Lt2 (A+2*(L.length-s)+w*(N-s-i)) (K.getD i 0))/\(∀ i,Lt2 (A+2*(L.length-s)+w*(N-i)) (R.getD i 0)))
theorem oa:Does 7 rX ka:=by
 rintro ds Q hn ⟨⟨L,b,s,N,A,w⟩,⟨rfl,lb,b1,s1,s2,ll,N1,hA,hZ,A8⟩,q⟩;dsimp only at lb b1 s1 s2 ll N1 hA hZ A8 q;suffices h2:kz.run (tf Q) [.val (.lst (L.map .int)),.val (.lst (b.map .int)),.own (L.map .int),.val (.int s),.own [],.no,.no] by
  refine ⟨aC _,?_⟩;show kz.run (tf Q) [.val (.lst (L.map .int)),.val (.lst (b.map .int)),.own (L.map .int),.val (.int (((b.map D.int).length:Int)-1)),.own [],.no,.no];rw [aa,lb,show ((s+1:Nat):Int)-1=(s:Int) by omega];exact h2
 refine ⟨fun st=>∃ (o5 o6:SD) (l M:List Int) (W:Nat->Int),st=[.val (.lst (L.map .int)),.val (.lst (b.map .int)),.own (l.map .int),.val (.int s),.own (M.map .int),o5,o6]/\l.length+M.length=L.length/\(M.length=0\/s<=l.length) /\
   (∀ k,L.getD k 0=l.getD k 0+Cv.cv W (Cv.fn b) k)/\(∀ v,v+s<l.length->W v=0)/\(∀ u,u<M.length->M.getD u 0=W (L.length-s-1-u))/\(∀ v,L.length<=v+s->W v=0)/\(∀ i,Lt2 (A+2*M.length+w*(N-i)) (l.getD i 0))/\(∀ i,Lt2 (A+2*M.length+w*(N-s-i)) (W i)),
  fun st=>match st with | [_,_,.own l,_,_,_,_]=>l.length | _=>0,⟨.no,.no,L,[],fun _=>0,rfl,rfl,.inl rfl,fun k=>?_,fun _ _=>rfl,fun u hu=>absurd hu (cO _),fun _ _=>rfl,fun i=>(hA i).mono (by simp),fun _=>wC _⟩,?_⟩
 ·rw [Cv.wU fun _=>rfl,cq]
 rintro _ ⟨o5,o6,l,M,W,rfl,lM,hs,hW,w0,hM,wt,hl,hw⟩;refine xJ (p:=(s:Int)<(((l.map D.int).length:Nat):Int)) (fun c=>?_) (fun c=>?_)
 ·rw [aa] at c;obtain ⟨p,hp⟩:∃ p,l.length=p+1:=⟨l.length-1,by omega⟩;have sp:s<=p:=by omega
  have lt:Lt2 (A+2*M.length+w*(N-p)) (l.getD p 0):=hl p;have wN:w*(N-p)<=w*N:=ak _ (Nat.sub_le _ _);refine ⟨.int (l.getD p 0),by rw [aa,hp];exact tI (by omega),?_⟩;refine ⟨by rw [aa,sizeLine_eq];omega,?_⟩;generalize hm:l.getD p 0=m at *;refine ⟨by omega,by omega,fun i st=>∃ (o6:SD) (r:List Int),st=[.val (.lst (L.map .int)),.val (.lst (b.map .int)),.own (r.map .int),.val (.int s),.own ((M++[m]).map .int),.val (.int m),o6]/\r.length=p/\∀ k,k<p->r.getD k 0=l.getD k 0-(if p-s<=k/\k<p-s+i then m*b.getD (k-(p-s)) 0 else 0),⟨o6,l.dropLast,?_,by rw [dJ,hp];rfl,fun k hk=>?_⟩,?_,?_⟩
  ·show [SD.val (.lst (L.map .int)),.val (.lst (b.map .int)),.own (l.map D.int).dropLast,.val (.int s),.own (M.map D.int++[.int m]),.val (.int m),o6]=_;rw [yt,List.map_dropLast]
  ·rw [GX (by omega),if_neg (by omega)];omega
  ·rintro i d _ hd ⟨o6,r,rfl,lr,hr⟩;obtain ⟨hi,rfl⟩:=tK hd;have hi:i<s:=by omega
   have ei:(((r.map D.int).length:Nat):Int)-(s:Int)+(0+(i:Int))=((p-s+i:Nat):Int):=by rw [aa,lr];omega
   have e0:(0:Int)+(i:Int)=(i:Int):=by omega
   refine ⟨(congrArg (fun z:Int=>0<=z) ei).mpr (by omega),?_⟩;have et:((((r.map D.int).length:Nat):Int)-(s:Int)+(0+(i:Int))).toNat=p-s+i:=by rw [ei,aS]
   refine zN (d:=.int (r.getD (p-s+i) 0)) (by rw [et];exact tI (by omega)) ?_;refine uD (d:=.int (b.getD i 0)) (by rw [e0];exact va (tI (by omega))) ?_;have wi:w*(N-p)+w*(s-i)<=w*N:=by
    rw [← Nat.mul_add];exact ak _ (by omega)
   refine ⟨⟨_,_,lt,hZ i (by omega),by omega⟩,.val (.int (0+(i:Int))),r.set (p-s+i) (r.getD (p-s+i) 0-m*b.getD i 0),?_,by rw [bu,lr],fun k hk=>?_⟩
   ·show [SD.val (.lst (L.map .int)),.val (.lst (b.map .int)),.own ((r.map D.int).set ((((r.map D.int).length:Nat):Int)-(s:Int)+(0+(i:Int))).toNat (.int (r.getD (p-s+i) 0-m*b.getD i 0))),.val (.int s),.own ((M++[m]).map .int),.val (.int m),.val (.int (0+(i:Int)))]=_;rw [et,map_set]
   ·rw [D3 (by omega)];by_cases c:k=p-s+i
    ·rw [if_pos c,hr _ (by omega),if_neg (by omega),if_pos (by omega),c,show p-s+i-(p-s)=i by omega];omega
    ·rw [if_neg c,hr k hk];by_cases c2:p-s<=k/\k<p-s+i
     ·rw [if_pos c2,if_pos (by omega)]
     ·rw [if_neg c2,if_neg (by omega)]
  ·rintro _ ⟨o6,r,rfl,lr,hr⟩;rw [tq,aS] at hr;have wv:W (p-s)=0:=w0 _ (by omega);have key:∀ k,l.getD k 0=r.getD k 0+(if p-s<=k then m*Cv.fn b (k-(p-s)) else 0):=fun k=>by
    unfold Cv.fn;rcases iD k p with z | z | z
    ·rw [hr k z];by_cases c2:p-s<=k
     ·rw [if_pos (by omega),if_pos c2];omega
     ·rw [if_neg (by omega),if_neg c2];omega
    ·subst z;rw [sS (fs:=r) (by omega),if_pos (by omega),show k-(k-s)=s by omega,b1,hm];omega
    ·rw [sS (fs:=l) (by omega),sS (fs:=r) (by omega),sS (fs:=b) (by omega)];split <;> omega
   have mz:2*(M++[m]).length=2*M.length+2:=by rw [aD];exact bJ _ _
   refine ⟨⟨_,_,r,M++[m],Ir W (p-s) m,rfl,by rw [aD,lr];simp;omega,.inr (by omega),fun k=>?_,fun v hv=>?_,fun u hu=>?_,fun v hv=>?_,fun i=>?_,fun i=>?_⟩,?_⟩
   ·rw [hW k,key k,JP];omega
   ·rw [yK (by omega)];exact w0 v (by omega)
   ·rw [yP];by_cases e:u=M.length
    ·rw [if_pos e,show L.length-s-1-u=p-s by omega,DM wv]
    ·rw [if_neg e];rw [aD] at hu;have hu:u<M.length+1:=hu;rw [hM u (by omega),yK (by omega)]
   ·rw [yK (by omega)];exact wt v hv
   ·rw [mz];rcases ao i p with z | z
    ·rw [hr i z];split
     ·rename_i ci;have wi:w*(N-p)+w*(s-(i-(p-s)))=w*(N-i):=by
       rw [← Nat.mul_add];congr 1;omega
      rw [show A+(2*M.length+2)+w*(N-i)=(A+2*M.length+w*(N-i)+1)+1 by omega];exact ((hl i).mono (by omega)).sub ((lt.mul (hZ (i-(p-s)) (by omega))).mono (by omega))
     ·rw [Int.sub_zero];exact (hl i).mono (by omega)
    ·rw [sS (by omega)];exact wC _
   ·rw [mz];by_cases e:i=p-s
    ·rw [e,DM wv];rw [show N-s-(p-s)=N-p by omega];exact lt.mono (by omega)
    ·rw [yK e];exact (hw i).mono (by omega)
   ·show (r.map D.int).length<(l.map D.int).length;rw [aa,aa];omega
 ·rw [aa] at c;have fK:∀ v,M.reverse.getD v 0=W v:=fun v=>by
   rcases ao v M.length with z | z
   ·rw [ac,bX z,← ac,hM _ (by omega)];congr 1;omega
   ·rw [sS (by rw [bO];exact z)];exact (wt v (by omega)).symm
  refine ⟨ur,q _ ⟨M.reverse,l,?_,by rw [bO];omega,by omega,fun k=>?_,fun i=>?_,fun i=>?_⟩⟩
  ·show D.tup [.lst (M.map D.int).reverse,.lst (l.map D.int)]=_;rw [← iE]
  ·rw [hW k];congr 1;exact Cv.tD (fun j=>(fK j).symm) fun _=>rfl
  ·rw [fK];exact (hw i).mono (by omega)
  ·exact (hl i).mono (by omega)
end Dp
namespace Dp
open PySem L2
def eB (b0 b:Nat):Nat:=b0+b*16+20
def yB (a w b:Nat):Nat:=a+700+(w+b)*16
def FO (P:List Int)(B:Int)(G:List Int)(U:Int)(s n z e y:Nat)(Ps:List (List Int×Int)):Prop:=∃ (N:Nat->Nat->Int) (E:Nat->Int) (Dv:Int),(0<Dv/\Lt2 z Dv/\B∣Dv)/\Ps≠[]/\Ps.length<=20/\(∀ t k,17<=k->N t k=0)/\(∀ t,0<E t/\Lt2 e (E t))/\(∀ t k,Lt2 y (N t k))/\(∀ k,N Ps.length k=0)/\(∀ k,N 0 k*B=P.getD k 0*E 0) /\
 (∀ t p,Ps[t]? = some p->(1<=t->p.2∣Dv)/\Pc.Pz y e p.1 p.2/\p.1.length<=s/\(t+1=Ps.length->p.1≠[])/\∀ (R:Nat->Int) (C:Int),0<C->(∀ k,R k*E (t+1)=N (t+1) k*C)->∀ k,(Cv.cv R (Cv.fn G) k*p.2+p.1.getD k 0*(C*U))*E t=N t k*(C*U*p.2))
def mk:SpB:=.of 2 (α:=List Int×Int×List Int×Int×Nat×Nat×Nat×Nat×Nat×Nat) (fun (P,B,G,U,n,s,a,b0,b,y) ds=>ds=[pD P B,pD G U]/\Pc.Pz a b0 P B/\P.length=n+1/\1<=n/\n<=16/\Po.Fm G U/\Lt2 b U/\Wt y G U s/\G.length=s+1/\1<=s/\s<=16/\G.getD s 0=U/\a+b0+(y+b)*19<=4000000/\(b+1)*18<=390000/\b+y*16<=1000000)
 (fun (P,B,G,U,n,s,a,b0,b,y) d=>∃ Ps:List (List Int×Int),d = .tup (Ps.map fun p=>pD p.1 p.2)/\FO P B G U s n (b0+b*(n-s)+1) (eB b0 b) (yB a (y+b) b) Ps)
def pC:TSd:=(iP [11] (dB bTuple bTuple.mono (iH (iI 11) iJ)))
def pE:TSd:=dSq (jl [] (ms (iL .Add (iL .FloorDiv (iI 2) (iI 3)) (dC (.int 1)))) (gNm 7)
 (dSq (iO [] (gTp [6,12]) (iK ka (iH (iI 6) (iH (iI 5) iJ))))
 (dSq (iO [] (gNm 13) (iT (jg (iI 12)) [8,14] (gTp [14,8]) i9 (iL .Mult (iL .Mult (iI 8) (iK iM (iH (iI 4) (iH (iI 14) iJ)))) (iK iM (iH (iI 9) (iH (iI 7) iJ))))))
 (pW [] 11 (iK i7 (iH (iI 13) (iH (iL .Mult (iL .Mult (dIx (iI 0) (dC (.int 1))) (iK iM (iH (iI 10) (iH (iI 7) iJ)))) (iK iM (iH (iI 4) (iH (iL .Sub (iI 2) (iL .Mult (iI 3) (iI 7))) iJ)))) iJ)))))))
 pC
def pF:TSd:=dSq (kY [] 11 (iY iJ))
 pE
def pG:TSd:=dSq (iO [] (gTp [9,10]) (iK jh (iH (iZ (iH (dC (.int 1)) (iH (dC (.int 1)) iJ))) (iH (iK m4 (iH (iI 1) iJ)) iJ))))
 pF
def pI:TSd:=dSq (iO [] (gNm 6) (iT (jg (dIx (iI 0) (dC (.int 0)))) [7,8] (gTp [7,8]) i9 (iL .Mult (iI 8) (iK iM (iH (iI 4) (iH (iL .Sub (iI 2) (iI 7)) iJ))))))
 pG
def pJ:TSd:=dSq (iO [] (gNm 5) (iK j4 (iH (dIx (iI 1) (dC (.int 0))) (iH (iI 4) iJ))))
 pI
def kW:TSd:=dSq (iO [] (gNm 4) (iK jL (iH (dIx (iI 1) (dC (.int 0))) iJ)))
 pJ
def jR:TSd:=dSq (dIf [] (iQ (iR .Lt (iI 2) (iI 3)))
 (iP [] (iZ (iH (iI 0) iJ)))
 iW)
 kW
def qZ:TSd:=dSq (iO [] (gTp [2,3]) (iZ (iH (iK i8 (iH (iI 0) iJ)) (iH (iK i8 (iH (iI 1) iJ)) iJ))))
 jR
theorem Fc {P:List Int}{B:Int}{G:List Int}{U:Int}{s n a b0 z e y:Nat}(z1:Pc.Pz a b0 P B)(ln:P.length=n+1)(n2:n<=16)(lt:n<s)(h1:b0<=z)(h2:b0+1<=e)(h3:a<=y):FO P B G U s n z e y [(P,B)]:=by
 have B0:=z1.fm.pos;refine ⟨fun t k=>if t=0 then P.getD k 0 else 0,fun t=>if t=0 then B else 1,B,⟨B0,z1.bot.mono (by omega),gr _⟩,by simp,by show 1<=20;decide,fun t k hk=>?_,fun t=>?_,fun t k=>?_,fun k=>rfl,fun k=>rfl,fun t p hp=>?_⟩
 ·dsimp only;split
  ·exact sS (by omega)
  ·rfl
 ·dsimp only;split
  ·exact ⟨B0,z1.bot.mono (by omega)⟩
  ·exact ⟨by decide,Lt2.mono (n:=1) (by decide) (by omega)⟩
 ·dsimp only;split
  ·exact (z1.tops k).mono (by omega)
  ·exact wC _
 ·match t,hp with
  | 0,hp =>
   cases hp;refine ⟨fun h=>absurd h (by decide),z1.mono (by omega) (by omega),by show P.length<=s;omega,fun _ h=>?_,fun R C C0 hR k=>?_⟩
   ·have h:P=[]:=h;rw [h] at ln;cases ln
   ·have r0:∀ k,R k=0:=fun k=>by
     have:R k*(if (0:Nat)+1=0 then B else 1)=(if (0:Nat)+1=0 then P.getD k 0 else 0)*C:=hR k;rw [if_neg (by decide),if_neg (by decide)] at this;omega
    rw [Cv.wU r0];dsimp only;rw [if_pos rfl,if_pos rfl];grind
def Ka (P:List Int)(B:Int)(G:List Int)(U c ov un:Int)(b:List Int)(n s A w y:Nat)(i:Nat)(st:SS):Prop :=
 ∃ (o7 o8 o12 o13 o14:SD) (l:List Int) (Ps:List (List Int×Int)) (L Dt:Nat->Nat->Int),st=[.val (pD P B),.val (pD G U),.val (.int n),.val (.int s),.val (.int c),.val (.lst (b.map .int)),.val (.lst (l.map .int)),o7,o8,.val (.int ov),.val (.int un),.own (Ps.map fun p=>pD p.1 p.2),o12,o13,o14] /\
  Ps.length=i/\l.length=n+1-s*i/\(∀ k,l.getD k 0=L i k)/\(0<l.length->l.getD (l.length-1) 0≠0)/\(∀ k,L 0 k=P.getD k 0*c^(n-k))/\(∀ t,t<=i->∀ k,Lt2 (A+34*t+w*(n-s*t-k)) (L t k)/\(n<k->L t k=0))/\(∀ t k,t<i->L t k=Dt t k+Cv.cv (L (t+1)) (Cv.fn b) k) /\
  (∀ t p,Ps[t]? = some p->Po.Fm p.1 p.2/\p.1.length<=s/\(∀ k,Lt2 y (Dt t k*(c^k*ov^t)))/\(t=n / s->p.1≠[])/\∀ k,p.1.getD k 0*(B*un^t*c^(n-s*t))=Dt t k*(c^k*ov^t)*p.2)
theorem Fd {P:List Int}{B:Int}{G:List Int}{U c ov un:Int}{b:List Int}{n s a b0 bb A w y:Nat}{st:SS}(hu1:un=1)(hA:A<=a+2)(hy:y=yB a w bb)(z1:Pc.Pz a b0 P B)(ln:P.length=n+1)(n2:n<=16)(s1:1<=s)(sn:s<=n)(c0:0<c)(lc:Lt2 bb c)(u0:0<un)(lu:Lt2 1 un)(lo:Lt2 1 ov)(hb:∀ j,j<=s->Cv.fn b j*G.getD s 0=Cv.fn G j*c^(s-j))(lb:b.length=s+1)(lG:G.length=s+1)(hl:G.getD s 0*ov=un*U)
  (h:Ka P B G U c ov un b n s A w y (n / s+1) st):∃ o7 o8 o12 o13 o14 x,∃ Ps:List (List Int×Int),st=[.val (pD P B),.val (pD G U),.val (.int n),.val (.int s),.val (.int c),.val (.lst (b.map .int)),x,o7,o8,.val (.int ov),.val (.int un),.own (Ps.map fun p=>pD p.1 p.2),o12,o13,o14]/\FO P B G U s n (b0+bb*(n-s)+1) (eB b0 bb) y Ps:=by
 obtain ⟨o7,o8,o12,o13,o14,l,Ps,L,Dt,rfl,lP,ll,hL,_,h0,hs,hr,hd⟩:=h;have B0:=z1.fm.pos;have ns:s*(n / s)<=n:=gH n s;have ns2:n<s*(n / s+1):=io n (by omega);have T12:n / s<=16:=aH (dL _ _) n2;have le:l=[]:=by
  apply cX;rw [ll];omega
 have LT:∀ k,L (n / s+1) k=0:=fun k=>by rw [← hL k,le];rfl
 refine ⟨o7,o8,o12,o13,o14,_,Ps,rfl,fun t k=>if t<=n / s then L t k*(c^k*ov^t) else 0,fun t=>if t<=n / s then B*un^t*c^(n-s*t) else 1,B*c^(n-s),⟨az B0 (bS c0),(z1.bot.mul (Hv.tx lc (n-s))).mono (by omega),dI _ _⟩,?_,by omega,fun t k hk=>?_,fun t=>?_,fun t k=>?_,fun k=>?_,fun k=>?_,fun t p hp=>?_⟩
 ·intro z;rw [z] at lP;cases lP
 ·dsimp only;split
  ·rw [(hs t (by omega) k).2 (by omega),aL]
  ·rfl
 ·dsimp only;split
  ·rename_i tl;refine ⟨az (az B0 (bS u0)) (bS c0),?_⟩;exact ((z1.bot.mul (uu lu (show t<=16 by omega))).mul (uu lc (show n-s*t<=16 by omega))).mono (by unfold eB;omega)
  ·exact ⟨by decide,Lt2.mono (n:=1) (by decide) (by unfold eB;omega)⟩
 ·dsimp only;split
  ·rename_i tl;obtain ⟨x1,x2⟩:=hs t (by omega) k;rcases ao n k with z | z
   ·rw [x2 z,aL];exact wC _
   ·have wk:w*(n-s*t-k)<=w*16:=ak _ (by omega);exact (x1.mul ((uu lc (show k<=16 by omega)).mul (uu lo (show t<=16 by omega)))).mono (by rw [hy];unfold yB;omega)
  ·exact wC _
 ·rw [lP];exact if_neg (by omega)
 ·show (if 0<=n / s then L 0 k*(c^k*ov^0) else 0)*B=P.getD k 0*(if 0<=n / s then B*un^0*c^(n-s*0) else 1);rw [if_pos (aC _),if_pos (aC _),h0 k,aT,aT,gg,bZ];rcases ao n k with z | z
  ·rw [sS (fs:=P) (by omega)];simp
  ·have e:c^n=c^(n-k)*c^k:=by
    rw [← cQ];congr 1;omega
   rw [e];grind
 ·have tl:t<=n / s:=by
   have:=(aj.mp hp).1;omega
  obtain ⟨d1,d2,d3,d4,d5⟩:=hd t p hp;have E0:0<B*un^t*c^(n-s*t):=az (az B0 (bS u0)) (bS c0);have El:Lt2 (eB b0 bb) (B*un^t*c^(n-s*t)):=((z1.bot.mul (uu lu (show t<=16 by omega))).mul (uu lc (show n-s*t<=16 by omega))).mono (by unfold eB;omega);have dv:1<=t->p.2∣B*c^(n-s):=fun t1=>by
   have h1:p.2∣B*un^t*c^(n-s*t):=BH d1 d5;rw [hu1,cY,bh] at h1;have:s*1<=s*t:=ak s t1;exact eK h1 (gD (gr _) (I0 _ (by omega)))
  refine ⟨dv,Pc.Pz.of d1 E0 d5 d3 El,d2,fun e=>d4 (by omega),fun R C C0 hR k=>?_⟩;have hR:∀ k,R k*(if t+1<=n / s then B*un^(t+1)*c^(n-s*(t+1)) else 1)=(if t+1<=n / s then L (t+1) k*(c^k*ov^(t+1)) else 0)*C:=hR;show (Cv.cv R (Cv.fn G) k*p.2+p.1.getD k 0*(C*U))*(if t<=n / s then B*un^t*c^(n-s*t) else 1)=(if t<=n / s then L t k*(c^k*ov^t) else 0)*(C*U*p.2);rw [if_pos tl,if_pos tl,hr t k (by omega)];refine Dg.Kd ?_ (d5 k);rcases ao t (n / s) with z | z
  ·have st:s*(t+1)<=n:=aH (ak s z) ns;refine Dg.turn (Gs:=G.getD s 0) hb (fun j hj=>Cv.sT (by omega)) (fun j hj=>Cv.sT (by omega)) hl u0 st (fun k=>?_) k;have:=hR k;rw [if_pos (by omega),if_pos (by omega)] at this;rw [this,← bY]
  ·have r0:∀ k,R k=0:=fun k=>by
    have:=hR k;rw [if_neg (by omega),if_neg (by omega)] at this;omega
   have e:t+1=n / s+1:=by omega
   rw [Cv.wU r0,e,Cv.wU LT];simp
theorem Fe {P:List Int}{B:Int}{G:List Int}{U c ov un:Int}{b:List Int}{n s i a bb A w y:Nat}{l K R ts p1:List Int}{p2:Int}{Ps:List (List Int×Int)}{L Dt:Nat->Nat->Int}(o7 o8 o12 o13 o14:SD)(n2:n<=16)(s1:1<=s)(s8:s<=16)(hi:i<=n / s)(hA:A<=a+2)(hy:y=yB a w bb)(c0:0<c)(lc:Lt2 bb c)(o0:ov≠0)(lo:Lt2 1 ov)(E0:0<B*un^i*c^(n-s*i))(lb:b.length=s+1)(b1:b.getD s 0=1)
  (lP:Ps.length=i) (ll:l.length=n+1-s*i) (hL:∀ k,l.getD k 0=L i k) (ht:0<l.length->l.getD (l.length-1) 0≠0) (h0:∀ k,L 0 k=P.getD k 0*c^(n-k)) (hs:∀ t,t<=i->∀ k,Lt2 (A+34*t+w*(n-s*t-k)) (L t k)/\(n<k->L t k=0)) (hr:∀ t k,t<i->L t k=Dt t k+Cv.cv (L (t+1)) (Cv.fn b) k)
  (hd:∀ t p,Ps[t]? = some p->Po.Fm p.1 p.2/\p.1.length<=s/\(∀ k,Lt2 y (Dt t k*(c^k*ov^t)))/\(t=n / s->p.1≠[])/\∀ k,p.1.getD k 0*(B*un^t*c^(n-s*t))=Dt t k*(c^k*ov^t)*p.2)
  (lK:K.length=l.length-s) (lR:R.length=min l.length s) (hK:∀ k,l.getD k 0=R.getD k 0+Cv.cv (Cv.fn K) (Cv.fn b) k) (sK:∀ j,Lt2 (A+34*i+2*(l.length-s)+w*(n-s*i-s-j)) (K.getD j 0)) (sR:∀ j,Lt2 (A+34*i+2*(l.length-s)+w*(n-s*i-j)) (R.getD j 0))
  (lt:ts.length=R.length) (et:∀ k,k<R.length->ts.getD k 0=R.getD k 0*c^k*ov^i) (fm:Po.Fm p1 p2) (hw:∀ k,p1.getD k 0*(B*un^i*c^(n-s*i))=ts.getD k 0*p2) (hle:p1.length<=ts.length) :
  Ka P B G U c ov un b n s A w y (i+1) [.val (pD P B),.val (pD G U),.val (.int n),.val (.int s),.val (.int c),.val (.lst (b.map .int)),.val (.lst (K.map .int)),o7,o8,.val (.int ov),.val (.int un),.own ((Ps.map fun p=>pD p.1 p.2)++[pD p1 p2]),o12,o13,o14]:=by
 have ns:s*(n / s)<=n:=gH n s;have si:s*i<=n:=aH (ak s hi) ns;have st:s*(i+1)=s*i+s:=bJ s i;have i12:i<=16:=aH hi (aH (dL _ _) n2);have tsk:∀ k,ts.getD k 0=R.getD k 0*(c^k*ov^i):=fun k=>by
  rcases ao k R.length with z | z
  ·rw [et k z,bY]
  ·rw [sS (by omega),sS z,aL]
 refine ⟨o7,o8,o12,o13,o14,K,Ps++[(p1,p2)],fun t k=>if t<=i then L t k else K.getD k 0,fun t k=>if t<i then Dt t k else R.getD k 0,by rw [bD];rfl,by rw [aD,lP];rfl,by rw [lK,ll,st];omega,fun k=>(if_neg (by omega)).symm,fun hk=>?_,fun k=>?_,fun t tl k=>?_,fun t k tl=>?_,fun t p hp=>?_⟩
 ·have ls:s<l.length:=by omega
  have e:=hK (l.length-1);rw [sS (fs:=R) (by omega),cJ] at e;have e2:=Pc.BL (f:=Cv.fn K) (g:=Cv.fn b) (a:=K.length-1) (b:=s) (fun j hj=>Cv.sT (by omega)) (fun j hj=>Cv.sT (by omega));rw [show K.length-1+s=l.length-1 by omega] at e2;rw [e2] at e;have b1':Cv.fn b s=1:=b1;rw [b1',bh] at e;have:=ht (by omega);rw [e] at this;exact this
 ·show (if 0<=i then L 0 k else K.getD k 0)=_;rw [if_pos (aC _)];exact h0 k
 ·dsimp only;split
  ·exact hs t (by assumption) k
  ·rw [show t=i+1 by omega];refine ⟨(sK k).mono ?_,fun h=>sS (by omega)⟩;rw [show n-s*(i+1)-k=n-s*i-s-k by omega];omega
 ·dsimp only;rcases ao t i with z | z
  ·rw [if_pos (by omega),if_pos z,hr t k z];congr 1;exact Cv.tD (fun j=>(if_pos (by omega)).symm) fun _=>rfl
  ·have e:t=i:=by omega
   subst e;rw [if_pos (am _),if_neg (by omega),← hL k,hK k];congr 1;exact Cv.tD (fun j=>(if_neg (by omega)).symm) fun _=>rfl
 ·rcases ao t Ps.length with z | z
  ·rw [bx z] at hp;have e:(fun k=>if t<i then Dt t k else R.getD k 0)=Dt t:=funext fun k=>if_pos (by omega);obtain ⟨d1,d2,d3,d4,d5⟩:=hd t p hp;refine ⟨d1,d2,fun k=>?_,d4,fun k=>?_⟩
   ·dsimp only;rw [if_pos (by omega)];exact d3 k
   ·dsimp only;rw [if_pos (by omega)];exact d5 k
  ·have e:t=i:=by
    have:=(aj.mp hp).1;rw [aD] at this;simp at this;omega
   subst e;rw [bq z,lP,cD] at hp;cases hp;refine ⟨fm,by show p1.length<=s;omega,fun k=>?_,fun hn hp=>?_,fun k=>?_⟩
   ·dsimp only;rw [if_neg (by omega)];rcases ao k R.length with y | y
    ·have wk:w*(n-s*t-k)<=w*16:=ak _ (by omega);exact ((sR k).mul ((uu lc (show k<=16 by omega)).mul (uu lo (show t<=16 by omega)))).mono (by rw [hy];unfold yB;omega)
    ·rw [sS y,aL];exact wC _
   ·have hp:p1=[]:=hp;subst hp;have l1:0<l.length:=by omega
    have ls:l.length<=s:=by
     have:=io n (show 0<s by omega);rw [← hn] at this;omega
    have e:=hK (l.length-1);have kn:K=[]:=cX (by omega);have k0:∀ j,Cv.fn K j=0:=fun j=>by rw [kn];rfl
    rw [Cv.wU k0,cq] at e;have w:=hw (l.length-1);rw [tsk,← e] at w;have w:(0:Int)*(B*un^t*c^(n-s*t))=_:=w;rw [aL] at w;exact bT (bT (ht l1) (bT (cH (aA c0)) (cH o0))) (aA fm.pos) w.symm
   ·dsimp only;rw [if_neg (by omega),← tsk];exact hw k
theorem DA {P:List Int}{B:Int}{G:List Int}{U c ov un:Int}{bs:List Int}{n s i a b0 bb A w y:Nat}{st:SS}{E:EndsD}(hA:A<=a+2)(hyB:y=yB a w bb)(cap:a+b0+(w+bb)*19<=5000000)(cap2:(bb+1)*18<=390000)(n2:n<=16)(s1:1<=s)(s8:s<=16)(hi:i<=n / s)(B0:0<B)(lB:Lt2 b0 B)(c0:0<c)(lc:Lt2 bb c)(o0:ov≠0)(lo:Lt2 1 ov)(u0:0<un)(lu:Lt2 1 un)(lb:bs.length=s+1)(b1:bs.getD s 0=1)(hZ:∀ j,j<=s->Lt2 (w*(s-j)+1) (bs.getD j 0))
  (hE:∀ st,Ka P B G U c ov un bs n s A w y (i+1) st->E.nx st) (h:Ka P B G U c ov un bs n s A w y i st):((dSq (iO [] (gTp [6,12]) (iK ka (iH (iI 6) (iH (iI 5) iJ))))
 (dSq (iO [] (gNm 13) (iT (jg (iI 12)) [8,14] (gTp [14,8]) i9 (iL .Mult (iL .Mult (iI 8) (iK iM (iH (iI 4) (iH (iI 14) iJ)))) (iK iM (iH (iI 9) (iH (iI 7) iJ))))))
 (pW [] 11 (iK i7 (iH (iI 13) (iH (iL .Mult (iL .Mult (dIx (iI 0) (dC (.int 1))) (iK iM (iH (iI 10) (iH (iI 7) iJ)))) (iK iM (iH (iI 4) (iH (iL .Sub (iI 2) (iL .Mult (iI 3) (iI 7))) iJ)))) iJ)))))):TSd).run E (st.set 7 (.val (.int (0+(i:Int))))):=by
 obtain ⟨o7,o8,o12,o13,o14,l,Ps,L,Dt,rfl,lP,ll,hL,ht,h0,hs,hr,hd⟩:=h;have ns:s*(n / s)<=n:=gH n s;have si:s*i<=n:=aH (ak s hi) ns;have i12:i<=16:=aH hi (aH (dL _ _) n2);have e0:(0:Int)+(i:Int)=(i:Int):=by omega
 rw [e0];have wN:w*(n-s*i)<=w*16:=ak _ (by omega);refine ⟨rfl,(l,bs,s,n-s*i,A+34*i,w),⟨rfl,lb,b1,s1,by show s<=100;omega,by show l.length<=n-s*i+1;omega,by show n-s*i<=100;omega,fun k=>by rw [hL k];exact (hs i (am _) k).1,hZ,by show A+34*i+w*(n-s*i)<=40000000;omega⟩,?_⟩;rintro _ ⟨K,R,rfl,lK,lR,hK,sK,sR⟩;have lR8:R.length<=16:=by have lR:R.length=min l.length s:=lR;omega
 refine ⟨rfl,(congrArg (· <= sizeLine) (uU R)).mpr (vf (by omega)),nI (fun k=>R.getD k 0*c^k*ov^i),nI.nil,fun k d ys hd' _ hy=>?_,fun ys _ hy=>?_⟩
 ·obtain ⟨hk,rfl⟩:=tT hd';have lr:=sR k;have wk:w*(n-s*i-k)<=w*16:=ak _ (by omega);have bk:(bb+1)*(k+1)<=(bb+1)*18:=ak _ (by omega);have lk:=uu lc (show k<=16 by omega);have li:=uu lo (show i<=16 by omega);refine ⟨rfl,rfl,(c,k,bb),⟨rfl,lc,by show k<=200;omega,by show (bb+1)*(k+1)<=400000;omega⟩,?_⟩;rintro _ rfl;refine ⟨⟨_,_,lr,lk,by omega⟩,rfl,(ov,i,1),⟨rfl,lo,by show i<=200;omega,by show (1+1)*(i+1)<=400000;omega⟩,?_⟩;rintro _ rfl;exact ⟨⟨_,_,lr.mul lk,li,by omega⟩,hy.snoc rfl⟩
 have hy:nI _ (t7 (R.map D.int)).length ys:=hy;rw [uU] at hy;obtain ⟨ts,rfl,lt,et⟩:=hy;have ui:=uu lu (show i<=16 by omega);have ci:=uu lc (show n-s*i<=16 by omega);have E0:0<B*un^i*c^(n-s*i):=az (az B0 (bS u0)) (bS c0);refine ⟨rfl,(un,i,1),⟨rfl,lu,by show i<=200;omega,by show (1+1)*(i+1)<=400000;omega⟩,?_⟩;rintro _ rfl;have ls:Lt2 7 ((s:Nat):Int):=by unfold Lt2;omega
 have li:Lt2 7 ((i:Nat):Int):=by unfold Lt2;omega
 have es:(n:Int)-(s:Int)*(i:Int)=((n-s*i:Nat):Int):=by
  have:(s:Int)*(i:Int)=((s*i:Nat):Int):=by push_cast;rfl
  omega
 refine ⟨⟨_,_,lB,ui,by omega⟩,⟨_,_,ls,li,by decide⟩,rfl,(c,n-s*i,bb),⟨congrArg (fun z=>[D.int c,.int z]) es,lc,by show n-s*i<=200;omega,by show (bb+1)*(n-s*i+1)<=400000;exact aH (ak _ (by omega)) (aH cap2 (by decide))⟩,?_⟩;rintro _ rfl;refine ⟨⟨_,_,lB.mul ui,ci,by omega⟩,rfl,(ts,B*un^i*c^(n-s*i)),⟨rfl,E0,((lB.mul ui).mul ci).mono (by omega),by show ts.length<=1000;omega⟩,?_⟩;rintro _ ⟨p1,p2,rfl,fm,hw,hle⟩;refine ⟨by rw [aa,lP,sizeLine_eq];omega,hE _ ?_⟩;exact Fe _ _ _ _ _ n2 s1 s8 hi hA hyB c0 lc o0 lo E0 lb b1 lP ll hL ht h0 hs hr hd lK lR hK sK sR lt et fm hw hle
theorem GY {P G:List Int}{B U:Int}{n s a b0 b y:Nat}{Q:D->Prop}(z1:Pc.Pz a b0 P B)(ln:P.length=n+1)(n1:1<=n)(n2:n<=16)(fG:Po.Fm G U)(lU:Lt2 b U)(wG:Wt y G U s)(cap:a+b0+(y+b)*19<=4000000)(cap2:(b+1)*18<=390000)(cap3:b+y*16<=1000000)(mon:G.getD s 0=U)(lG:G.length=s+1)(s1:1<=s)(s8:s<=16)(sn:s<=n)(q:∀ d,(∃ Ps:List (List Int×Int),d = .tup (Ps.map fun p=>pD p.1 p.2)/\FO P B G U s n (b0+b*(n-s)+1) (eB b0 b) (yB a (y+b) b) Ps)->Q d) :
  kW.run (tf Q) [.val (pD P B),.val (pD G U),.val (.int n),.val (.int s),.no,.no,.no,.no,.no,.no,.no,.no,.no,.no,.no]:=by
 have tG:G.getD s 0≠0:=uF fG lG;have U0:=fG.pos;have z2:=wG.pz fG lG lU;have ys:y*s<=y*16:=ak _ s8;have bs1:(b+1)*(s+2)<=(b+1)*18:=ak _ (by omega);have B0:=z1.fm.pos;refine ⟨rfl,(G,s,b+y*s,b),⟨rfl,lG,by show s<=20;omega,z2.tops,by show b+y*s<=1000000;omega,by rw [mon];exact lU,by show (b+1)*(s+2)<=390000;omega,tG⟩,?_⟩;rintro _ ⟨c,rfl,c0,lc,hdv⟩;have lc:Lt2 b c:=lc;refine ⟨rfl,(G,c,s,b+y*s,b,b),⟨rfl,lG,by show s<=100;omega,z2.tops,lc,by show b+y*s<=1000000;omega,by rw [mon];exact lU,by show b<=9000000;omega,by show (b+1)*(s+1)<=400000;exact aH (ak _ (by omega)) (aH cap2 (by decide)),tG⟩,?_⟩;rintro _ ⟨bs,rfl,lb,hb⟩;have lb:bs.length=s+1:=lb;have hx:∀ i,i<=s->G.getD s 0*bs.getD i 0=G.getD i 0*c^(s-i):=fun i hi=>by
  have hb:bs.getD i 0=(G.getD i 0*c^(s-i)).fdiv (G.getD s 0):=hb i hi;have hdv:G.getD s 0∣G.getD (s-(s-i)) 0*c^(s-i):=hdv (s-i) (by omega);rw [show s-(s-i)=i by omega] at hdv;obtain ⟨y,hy⟩:=hdv;rw [hb,hy,cT _ tG]
 have b1:bs.getD s 0=1:=by
  have:=hx s (am _);rw [cD,aT] at this;exact gM tG this
 have hZ:∀ j,j<=s->Lt2 ((y+b)*(s-j)+1) (bs.getD j 0):=fun j z=>by
  have h:=congrArg Int.natAbs (hx j z);rw [aR,aR,mon] at h;have g:=wG (s-j) (by omega);rw [show s-(s-j)=j by omega] at g;have cl:(c^(s-j)).natAbs<2^(b*(s-j)+1):=Hv.tx lc (s-j);have u0:0<U.natAbs:=by omega
  have k:U.natAbs*(bs.getD j 0).natAbs<=U.natAbs*(2^(y*(s-j))*(c^(s-j)).natAbs):=by
   rw [h,← eI];exact bI _ g
  have k:=Nat.le_of_mul_le_mul_left k u0;show (bs.getD j 0).natAbs<2^((y+b)*(s-j)+1);rw [show (y+b)*(s-j)+1=y*(s-j)+(b*(s-j)+1) by rw [gz];omega,dY];exact b8 k (gG cl (bA (by decide)))
 refine ⟨(congrArg (· <= sizeLine) (uU P)).mpr (vf (by omega)),nI (fun k=>P.getD k 0*c^(n-k)),nI.nil,fun i d ys hd _ hy=>?_,fun ys _ hy=>?_⟩
 ·obtain ⟨hi,rfl⟩:=tT hd;refine ⟨rfl,rfl,(c,n-i,b),⟨?_,lc,by show n-i<=200;omega,by show (b+1)*(n-i+1)<=400000;exact aH (ak _ (by omega)) (aH cap2 (by decide))⟩,?_⟩
  ·show [D.int c,.int ((n:Int)-(i:Int))]=[D.int c,.int ((n-i:Nat):Int)];rw [show (n:Int)-(i:Int)=((n-i:Nat):Int) by omega]
  ·rintro _ rfl;exact ⟨⟨_,_,z1.tops i,uu lc (show n-i<=16 by omega),by omega⟩,hy.snoc rfl⟩
 have hy:nI _ (t7 (P.map D.int)).length ys:=hy;rw [uU,ln] at hy;obtain ⟨l0,rfl,l0l,hl0⟩:=hy;refine ⟨ur,rfl,(G,U,s,b+y*s,b),⟨rfl,lG,z2,by show b<=9000000;omega⟩,?_⟩;rintro dl fl;have uR:(U:Rat)≠0:=Qp.sQ U0;have q1:Qp.q G U s=((1:Int):Rat):=by
  unfold Qp.q;rw [mon];show _=(1:Rat);grind
 have fl:FqD (b+y*s) b dl (Qp.q G U s):=fl;rw [q1] at fl;obtain ⟨rfl,_⟩:=fl.same (ua (n:=1) (t:=1) (by decide));refine ⟨rfl,(fD 1 1,fD 1 1,((1:Int):Rat),((1:Int):Rat),1,1,1,1),⟨rfl,ua (by decide),ua (by decide),by decide,by decide,by decide⟩,?_⟩;rintro do1 fo;have fo:FqD 2 2 do1 (((1:Int):Rat) / ((1:Int):Rat)):=fo;rw [show ((1:Int):Rat) / ((1:Int):Rat)=((1:Int):Rat) by show (1:Rat) / 1=1;grind] at fo;obtain ⟨rfl,_⟩:=fo.same (ua (n:=1) (t:=1) (by decide));obtain ⟨ov,hov⟩:∃ ov:Int,ov=1:=⟨_,rfl⟩;obtain ⟨un,hun⟩:∃ un:Int,un=1:=⟨_,rfl⟩;have lo:Lt2 1 ov:=by rw [hov];unfold Lt2;decide
 have lu:Lt2 1 un:=by rw [hun];unfold Lt2;decide
 have u0:0<un:=by omega
 have o0:ov≠0:=by omega
 have hl:G.getD s 0*ov=un*U:=by rw [mon,hov,hun];omega
 have eo:fD 1 1=fD ov un:=by rw [hov,hun]
 rw [eo];have ef:(n:Int).fdiv (s:Int)=((n / s:Nat):Int):=by
  rw [ce _ (by omega)];rfl
 have T12:n / s<=16:=aH (dL _ _) n2;have ls:Lt2 7 ((s:Nat):Int):=by unfold Lt2;omega
 have eT:((n:Int).fdiv (s:Int)+1).toNat=n / s+1:=by rw [ef];exact aS (n / s+1)
 have t0:(0:Int)<=((n / s:Nat):Int):=Int.natCast_nonneg _;have t1:((n / s:Nat):Int)<=16:=by exact_mod_cast T12
 have w1 : -(2^62)<=(n:Int).fdiv (s:Int)+1:=by
  rw [ef];generalize ((n / s:Nat):Int)=z at *;omega
 have w2:(n:Int).fdiv (s:Int)+1<2^62:=by
  rw [ef];generalize ((n / s:Nat):Int)=z at *;omega
 have s0:(s:Int)≠0:=by omega
 refine ⟨rfl,aC _,⟨s0,7,ls,by decide⟩,w1,w2,Ka P B G U c ov un bs n s (a+2) (y+b) (yB a (y+b) b),?_,?_,?_⟩
 ·refine ⟨.no,.no,.no,.no,.no,l0,[],fun t k=>P.getD k 0*c^(n-k),fun _ _=>0,rfl,rfl,by rw [l0l];rfl,fun k=>?_,fun _=>?_,fun k=>rfl,fun t ht k=>⟨?_,fun hk=>?_⟩,fun t k ht=>absurd ht (cO _),fun t p hp=>by cases hp⟩
  ·rcases ao k (n+1) with z | z
   ·exact hl0 k z
   ·show l0.getD k 0=P.getD k 0*c^(n-k);rw [sS (by omega),sS (fs:=P) (by omega),aL]
  ·have e:=hl0 n (by omega);dsimp only at e;rw [l0l,bK,e,cD,aT,bh];exact uF z1.fm ln
  ·rw [show t=0 by omega,gg,gg,bZ];exact ((z1.tops k).mul (Hv.tx lc (n-k))).mono (by rw [gz];omega)
  ·show P.getD k 0*c^(n-k)=0;rw [sS (by omega),aL]
 ·rintro i d st hd hS;have hd:(ve 0 ((n:Int).fdiv (s:Int)+1).toNat)[i]? = some d:=hd;rw [eT] at hd;obtain ⟨hi,rfl⟩:=tK hd;exact DA (a:=a) (b0:=b0) (by omega) rfl (by omega) cap2 n2 s1 s8 (by omega) B0 z1.bot c0 lc o0 lo u0 lu lb b1 hZ (fun _ h=>h) hS
 ·rintro st hS;have hS:Ka P B G U c ov un bs n s (a+2) (y+b) (yB a (y+b) b) (ve 0 ((n:Int).fdiv (s:Int)+1).toNat).length st:=hS;rw [tq,eT] at hS;obtain ⟨o7,o8,o12,o13,o14,x,Ps,rfl,hD⟩:=Fd hun (am _) rfl z1 ln n2 s1 sn c0 lc u0 lu lo (fun j hj=>by rw [bt];exact hx j hj) lb lG hl hS;exact q _ ⟨Ps,rfl,hD⟩
theorem oe:Does 15 qZ mk:=by
 rintro ds Q hn ⟨⟨P,B,G,U,n,s,a,b0,b,y⟩,⟨rfl,z1,ln,n1,n2,fG,lU,wG,lG,s1,s8,mon,cap,cap2,cap3⟩,q⟩;dsimp only at z1 ln n1 n2 fG lU wG lG s1 s8 mon cap cap2 cap3 q;refine ⟨rfl,(P,B),rfl,?_⟩;rintro _ rfl;refine ⟨rfl,(G,U),rfl,?_⟩;rintro _ rfl;refine ⟨ur,rfl,?_⟩;suffices h1:jR.run (tf Q) [.val (pD P B),.val (pD G U),.val (.int n),.val (.int s),.no,.no,.no,.no,.no,.no,.no,.no,.no,.no,.no] by
  show jR.run (tf Q) [.val (pD P B),.val (pD G U),.val (.int ((P.length:Int)-1)),.val (.int ((G.length:Int)-1)),.no,.no,.no,.no,.no,.no,.no,.no,.no,.no,.no];rw [ln,lG,show ((n+1:Nat):Int)-1=(n:Int) by omega,show ((s+1:Nat):Int)-1=(s:Int) by omega];exact h1
 refine xJ (p:=(n:Int)<(s:Int)) (fun c=>?_) (fun c=>?_)
 ·exact ⟨Ba,q _ ⟨[(P,B)],rfl,Fc z1 ln n2 (by omega) (by omega) (by unfold eB;omega) (by unfold yB;omega)⟩⟩
 ·exact GY z1 ln n1 n2 fG lU wG cap cap2 cap3 mon lG s1 s8 (by omega) q
end Dp
namespace Dp
open PySem L2
open Cv Qp in
theorem BJ {N N':Nat->Int}{e e' U p2:Int}{G p1:List Int}(h0:∀ k,17<=k->N k=0)(h1:∀ k,17<=k->N' k=0)(e0:0<e)(e1:0<e')(U0:0<U)(p0:0<p2)(h:∀ k,(cv N' (fn G) k*p2+p1.getD k 0*(e'*U))*e=N k*(e'*U*p2))(x:Rat) :
  ei N x 17 / (e:Rat)=E p1 p2 x+E G U x*(ei N' x 17 / (e':Rat)):=by
 have l:=zu (F:=fun k=>cv N' (fn G) k*p2+p1.getD k 0*(e'*U)) (G:=N) (x:=x) h (17+G.length+p1.length);rw [BF,uV,uV] at l;have a1:ei (cv N' (fn G)) x (17+G.length+p1.length)=ei N' x 17*ei (fn G) x G.length:=by
  rw [yC (fun k hk=>tX (a:=17) (b:=G.length) (fun j hj=>h1 j hj) (fun j hj=>sT hj) (by omega)),Ie (fun k hk=>h1 k hk) (fun k hk=>sT hk)]
 have a2:ei (fun k=>p1.getD k 0) x (17+G.length+p1.length)=ei (fn p1) x p1.length:=by
  rw [show 17+G.length+p1.length=p1.length+(17+G.length) by omega];exact yC (fun k hk=>sT hk) _
 have a3:ei N x (17+G.length+p1.length)=ei N x 17:=by
  rw [show 17+G.length+p1.length=17+(G.length+p1.length) by omega];exact yC h0 _
 rw [a1,a2,a3] at l;unfold E;simp only [aB] at l;have n1:=sQ e0;have n2:=sQ e1;have n3:=sQ U0;have n4:=sQ p0;generalize ei N' x 17=X at *;generalize ei (fn G) x G.length=Y at *;generalize ei (fn p1) x p1.length=Z at *;generalize ei N x 17=V at *;generalize (e:Rat)=a at *;generalize (e':Rat)=b at *;generalize (U:Rat)=c at *;generalize (p2:Rat)=d at *;have k1:V / a=(X*Y*d+Z*(b*c)) / (b*c*d):=by grind
 rw [k1];grind
theorem GZ {P G:List Int}{B U:Int}{s n z0 e0 y0:Nat}{Ps:List (List Int×Int)}(B0:0<B)(U0:0<U)(lP:P.length<=17)(h:FO P B G U s n z0 e0 y0 Ps)(x:Rat):Qp.E P B x=Ap.Ed (Qp.E G U x) x Ps:=by
 obtain ⟨N,E,Dv,_,ne,l20,hN,hE,sN,hT,h0,hp⟩:=h;have step:∀ t p,Ps[t]? = some p->Qp.ei (N t) x 17 / (E t:Rat)=Qp.E p.1 p.2 x+Qp.E G U x*(Qp.ei (N (t+1)) x 17 / (E (t+1):Rat)):=fun t p ht=>by
  obtain ⟨_,z,_,_,hr⟩:=hp t p ht;exact BJ (hN t) (hN (t+1)) (hE t).1 (hE (t+1)).1 U0 z.fm.pos (hr (N (t+1)) (E (t+1)) (hE (t+1)).1 fun _=>rfl) x
 have go:∀ j t,t+j=Ps.length->Qp.ei (N t) x 17 / (E t:Rat)=Ap.Ed (Qp.E G U x) x (Ps.drop t):=by
  intro j;induction j with
  | zero =>
   intro t ht;rw [show t=Ps.length by omega,zt hT,List.drop_length];show (0:Rat) / _=0;grind
  | succ j ih =>
   intro t ht;have lt:t<Ps.length:=by omega
   rw [step t _ (aq lt),ih (t+1) (by omega),dq lt];rfl
 have z:=go Ps.length 0 (by omega);rw [gF] at z;rw [← z,Qp.yb lP];have l:=Qp.zu (F:=N 0) (G:=Cv.fn P) (x:=x) h0 17;have n1:=Qp.sQ B0;have n2:=Qp.sQ (hE 0).1;grind
def gW (a Z n:Nat):Nat:=a+(Z+8)*n+24
def bU (Z k s:Nat):Nat:=if k=1 then Z else (Z+8)*(s-1)+1
def zB (b0 Z k s:Nat):Nat:=b0+bU Z k s*(k*s-s)+1
def tB (a b0 Z k s:Nat):Nat:=yB a (gW a Z (k*s)+bU Z k s) (bU Z k s)+zB b0 Z k s
def LM (a b0 Z n:Nat):Prop:=a+(Z+8)*n<=50000/\b0<=1000000/\Z<=20001/\(Z+8)*(n-1) / 2<=20000
theorem Ll {a b0 Z k s:Nat}(h:LM a b0 Z (k*s))(k1:1<=k)(s1:1<=s):bU Z k s<=20001:=by
 obtain ⟨_,_,h1,h2⟩:=h;unfold bU;split
 ·exact h1
 ·rename_i k2;have:2*s<=k*s:=bI _ (by omega);have h3:(Z+8)*(2*(s-1))<=(Z+8)*(k*s-1):=ak _ (by omega);have h4:(Z+8)*(2*(s-1))=2*((Z+8)*(s-1)):=by rw [← eI,bQ (Z+8) 2,eI]
  omega
theorem Ft {P G:List Int}{U:Int}{k s Z:Nat}(lP:P.length=k*s+1)(k1:1<=k)(s1:1<=s)(ks:k*s<=16)(hL:P.getD (k*s) 0≠0)(lZ:Lt2 Z (P.getD (k*s) 0))(c:Cn P k s G U)(hU:U.natAbs<=((P.getD (k*s) 0).natAbs*k*k)^(s-1)):Lt2 (bU Z k s) U:=by
 obtain ⟨fG,lG,cG⟩:=c;unfold bU;split
 ·rename_i e;subst e;rw [fh] at lP hL lZ;exact lZ.le (Fs lG lP fG cG hL)
 ·have k12:k<=16:=aH (b9 _ s1) ks;have kk:k*k<=16*16:=cb k12 k12;have lc:Lt2 (Z+8) ((((P.getD (k*s) 0).natAbs*k*k:Nat)):Int):=by
   unfold Lt2;rw [bj,eI,dY];have lZ:(P.getD (k*s) 0).natAbs<2^Z:=lZ;exact b8 (ak _ (show k*k<=2^8 by omega)) (dO lZ (by decide))
  have:=Hv.tx lc (s-1);unfold Lt2 at this ⊢;rw [cE,bj] at this;exact b8 hU this
def FR (P:List Int)(B:Int)(k s:Nat)(G:List Int)(U:Int)(Ps:List (List Int×Int)):Prop:=Cn P k s G U/\Ps≠[]/\Ps.length<=20/\(∀ p∈Ps,Po.Fm p.1 p.2/\p.1.length<=s)/\∀ x,Qp.E P B x=Ap.Ed (Qp.E G U x) x Ps
def J4 (P:List Int)(B:Int)(k s a b0 Z:Nat)(d:D):Prop:=∃ G U Ps,FR P B k s G U Ps/\Wt (gW a Z (k*s)) G U s/\Lt2 (bU Z k s) U/\((∃ (i:Nat) (p:List Int×Int),d = .tup [.str "barred",pD G U,.int (i:Int)]/\Ps[i]? = some p/\2<=p.1.length/\∀ j q,j<i->Ps[j]? = some q->q.1.length<=1) \/
 (∃ R C,d = .tup [.str "made",pD R C,pD G U]/\Pc.Pz (tB a b0 Z k s) (zB b0 Z k s) R C/\(∀ q∈Ps,q.1.length<=1)/\R.length<=20/\∀ x y,Qp.E R C y=Ap.Ed y x Ps))
def nq:SpB:=.of 2 (α:=List Int×Int×Nat×Nat×Nat×Nat×Nat) (fun (P,B,k,s,a,b0,Z) ds=>ds=[pD P B,.int s]/\Pc.Pz a b0 P B/\P.length=k*s+1/\1<=k/\1<=s/\k*s<=16/\k<=15/\Lt2 Z (P.getD (k*s) 0)/\LM a b0 Z (k*s)) (fun (P,B,k,s,a,b0,Z) d=>J4 P B k s a b0 Z d)
def qt:TSd:=(iP [] (iZ (iH (dC (.str "made")) (iH (iK jK (iH (iT (i5 (iI 3)) [5] (gNm 5) i9 (iK iX (iH (iI 5) (iH (dC (.int 0)) iJ)))) iJ)) (iH (iI 2) iJ)))))
def qu:TSd:=dSq (jl [] (jg (iI 3)) (gTp [4,5])
 (dIf [] (iQ (iR .GtE (iK i8 (iH (iI 5) iJ)) (dC (.int 1))))
 (iP [] (iZ (iH (dC (.str "barred")) (iH (iI 2) (iH (iI 4) iJ)))))
 iW))
 qt
def qv:TSd:=dSq (iO [] (gNm 3) (iK mk (iH (iI 0) (iH (iI 2) iJ))))
 qu
def rG:TSd:=dSq (iO [] (gNm 2) (iK j9 (iH (iI 0) (iH (iI 1) iJ))))
 qv
theorem pK:Does 6 rG nq:=by
 rintro ds Q hn ⟨⟨P,B,k,s,a,b0,Zl⟩,⟨rfl,z,lP,k1,s1,ks,k15,lZ,hsz⟩,q⟩;dsimp only at z lP k1 s1 ks k15 lZ hsz q;have s12:s<=k*s:=aQ _ k1;have hL:=uF z.fm lP;have hb:=Ll hsz k1 s1;have hsz':=hsz;obtain ⟨c1,c2,c3,_⟩:=hsz';refine ⟨rfl,(P,B,k,s,a,Zl),⟨rfl,lP,k1,s1,ks,k15,z.tops,lZ,by show a+(Zl+8)*(k*s)<=99000;omega,by show Zl<=20001;omega,hL⟩,?_⟩;rintro _ ⟨G,U,rfl,cn,wG,hU⟩;have wG:Wt (gW a Zl (k*s)) G U s:=wG;have lU:=Ft lP k1 s1 ks hL lZ cn hU;have cn':=cn;obtain ⟨fG,lG,hC⟩:=cn';obtain ⟨mon,G0⟩:=v6 hC s1;have G0:G.getD 0 0=0:=G0;have U0:=fG.pos;have B0:=z.fm.pos;have hg:gW a Zl (k*s)<=50024:=by unfold gW;omega
 generalize hgW:gW a Zl (k*s)=y at *;generalize hbU:bU Zl k s=b at *;have yy:y*16<=50024*16:=bI _ hg;refine ⟨rfl,(P,B,G,U,k*s,s,a,b0,b,y),⟨rfl,z,lP,by show 1<=k*s;omega,ks,fG,lU,wG,lG,s1,by show s<=16;omega,mon,by show a+b0+(y+b)*19<=4000000;omega,by show (b+1)*18<=390000;omega,by show b+y*16<=1000000;omega⟩,?_⟩;rintro _ ⟨Ps,rfl,hD⟩;have ed:=GZ B0 U0 (by omega) hD;obtain ⟨N,E,Dv,⟨D0,lD,BD⟩,ne,l20,_,_,_,_,_,hp⟩:=hD;have lD:Lt2 (b0+b*(k*s-s)+1) Dv:=lD;have bk:b*(k*s-s)<=b*16:=ak _ (by omega);have hy:yB a (y+b) b<=9000000:=by unfold yB;omega
 have he:eB b0 b<=9000000:=by unfold eB;omega
 have ezB:zB b0 Zl k s=b0+b*(k*s-s)+1:=by unfold zB;rw [hbU]
 have etB:tB a b0 Zl k s=yB a (y+b) b+(b0+b*(k*s-s)+1):=by unfold tB;rw [ezB,hbU,hgW]
 have hz:∀ p∈Ps,Pc.Pz (yB a (y+b) b) (eB b0 b) p.1 p.2/\p.1.length<=s:=fun p h=>by
  obtain ⟨t,ht⟩:=bP.mp h;exact ⟨(hp t p ht).2.1,(hp t p ht).2.2.1⟩
 have ap:FR P B k s G U Ps:=⟨cn,ne,l20,fun p h=>⟨(hz p h).1.fm,(hz p h).2⟩,ed⟩;generalize yB a (y+b) b=yy at *;generalize eB b0 b=ee at *;generalize hzz:b0+b*(k*s-s)+1=zz at *;refine ⟨fun i st=>(∃ o4 o5:SD,st=[.val (pD P B),.val (.int s),.val (pD G U),.val (.tup (Ps.map fun p=>pD p.1 p.2)),o4,o5])/\∀ j q,j<i->Ps[j]? = some q->q.1.length<=1,⟨⟨.no,.no,rfl⟩,fun j q h=>absurd h (cO _)⟩,?_,?_⟩
 ·rintro i d _ hd ⟨⟨o4,o5,rfl⟩,hI⟩;obtain ⟨x,hx,rfl⟩:=yA hd;rw [aO] at hx;obtain ⟨p,hp1,rfl⟩:=ab.mp hx;refine ⟨rfl,rfl,(p.1,p.2),rfl,?_⟩;rintro _ rfl;refine xJ (p:=(1:Int)<=(p.1.length:Int)-1) (fun c=>?_) (fun c=>?_)
  ·exact ⟨vf (n:=3) (by decide),q _ ⟨G,U,Ps,ap,by rw [hgW];exact wG,by rw [hbU];exact lU,.inl ⟨i,p,rfl,hp1,by omega,hI⟩⟩⟩
  ·refine ⟨⟨_,_,rfl⟩,fun j r hj hr=>?_⟩;rcases cC (gh hj) with e | e
   ·rw [e,hp1] at hr;cases hr;omega
   ·exact hI j r e hr
 ·rintro _ ⟨⟨o4,o5,rfl⟩,hI⟩;rw [tj,aa] at hI;have one:∀ r∈Ps,r.1.length<=1:=fun r hr=>by
   obtain ⟨t,ht⟩:=bP.mp hr;exact hI t r (aj.mp ht).1 ht
  refine ⟨(congrArg (· <= sizeLine) (aa _)).mpr (vf (by omega)),fun i ys=>∃ fs:List (Int×Int),ys=FS fs/\fs.length=i/\∀ (j:Nat) (f:Int×Int),fs[j]? = some f->∃ p:List Int×Int,Ps[j]? = some p/\0<f.2/\Int.gcd f.1 f.2=1/\Lt2 yy f.1/\Qp.q p.1 p.2 0=(f.1:Rat) / (f.2:Rat),⟨[],rfl,rfl,fun j f h=>by cases h⟩,fun i d ys hd _ hy=>?_,fun ys _ hy=>?_⟩
  ·rw [aO] at hd;obtain ⟨p,hp1,rfl⟩:=ab.mp hd;have zp:=(hz p (aM hp1)).1;refine ⟨rfl,(p.1,p.2,0,yy,ee),⟨rfl,zp,he⟩,?_⟩;rintro _ ⟨t,u,rfl,u0,g,lt,lu,er⟩;obtain ⟨fs,rfl,lf,hf⟩:=hy;refine ⟨fs++[(t,u)],by unfold FS;rw [bD];rfl,by rw [aD,lf];rfl,fun j f hj=>?_⟩;rcases ao j fs.length with y | y
   ·rw [bx y] at hj;exact hf j f hj
   ·have ej:j=i:=by
     have:=(aj.mp hj).1;rw [aD] at this;simp at this;omega
    subst ej;rw [bq (by omega),lf,cD] at hj;cases hj;exact ⟨p,hp1,u0,g,lt,er⟩
  ·obtain ⟨fs,rfl,lf,hf⟩:=hy;rw [aa] at lf;have dv:∀ f∈fs,0<f.2/\Lt2 yy f.1/\f.2∣Dv:=fun f h=>by
    obtain ⟨j,hj⟩:=bP.mp h;obtain ⟨p,hp1,u0,g,lt,er⟩:=hf j f hj;refine ⟨u0,lt,?_⟩;cases j with
    | zero =>
     have e0:Qp.q P B 0=Qp.q p.1 p.2 0:=by
      have a:=ed 0;have b0:Qp.E G U 0=0:=by
       rw [Qp.vE];unfold Qp.q;rw [G0];show (0:Rat) / _=0;grind
      rw [b0] at a;cases Ps with
      | nil=>exact absurd rfl ne
      | cons p' Ps =>
       cases hp1;have a:Qp.E P B 0=Qp.E p.1 p.2 0+0*_:=a;rw [Rat.zero_mul,Rat.add_zero,Qp.vE,Qp.vE] at a;exact a
     refine eK (AF (a:=P.getD 0 0) u0 g B0 ?_) BD;rw [← er,← e0];rfl
    | succ j =>
     have zp:=(hz p (aM hp1)).1;refine eK (AF (a:=p.1.getD 0 0) u0 g zp.fm.pos ?_) ((hp (j+1) p hp1).1 (by omega));rw [← er];rfl
   refine ⟨rfl,(fs,Dv,yy),⟨rfl,dv,by omega,D0,lD.mono (by omega),by show yy<=10000000;omega⟩,?_⟩;rintro _ ⟨R,C,rfl,fR,wR,lR,CD⟩;have wR:∀ k,R.getD k 0*(fs.getD k (0,1)).2=(fs.getD k (0,1)).1*C:=wR;have lR:R.length<=fs.length:=lR;have lC:Lt2 zz C:=lD.le (cR (by omega) (bc.mpr CD));refine ⟨vf (n:=3) (by decide),q _ ⟨G,U,Ps,ap,by rw [hgW];exact wG,by rw [hbU];exact lU,.inr ⟨R,C,rfl,⟨fR,fun k=>?_,by rw [ezB];exact lC⟩,one,by omega,fun x y=>?_⟩⟩⟩
   ·rcases ao k fs.length with y | y
    ·obtain ⟨f,hf1⟩:∃ f,fs[k]? = some f:=⟨fs[k],aq y⟩;have w:=wR k;rw [tL hf1] at w;obtain ⟨u0,lt,_⟩:=dv f (aM hf1);rw [etB];refine (lt.mul lC).le ?_;rw [← w,aR];exact b9 _ (by omega)
    ·rw [sS (by omega)];exact wC _
   ·rw [DI (N:=Ps.length) (by omega),Ig (f:=Qp.q R C) one fun j p hj=>?_];have lj:j<fs.length:=by rw [lf];exact (aj.mp hj).1
    obtain ⟨f,hf1⟩:∃ f,fs[j]? = some f:=⟨fs[j],aq lj⟩;obtain ⟨p',hp',u0,g,lt,er⟩:=hf j f hf1;rw [hj] at hp';cases hp';rw [er];have w:=wR j;rw [tL hf1] at w;exact (Qp.tR (aA fR.pos) (aA u0)).mpr w
end Dp
namespace Dp
open PySem L2 Qp Ap Dt
theorem BU (μ:Rat):∀ m:Nat,∃ r,Pl' m r/\∀ x,(x+μ)^(m+1)=x^(m+1)+((m:Rat)+1)*μ*x^m+r x
 | 0=>⟨fun _=>0,BZ 0,fun x=>by
  rw [aY,aY,bC,bC];have:((0:Nat):Rat)=0:=rfl;rw [this];grind⟩
 | m+1=>by
  obtain ⟨r,hr,e⟩:=BU μ m;have a:Pl' (m+1) fun x=>(((m:Rat)+1)*μ*μ)*x^m:=((Pl'.x.pow (s:=1) m).mono (by omega)).smul _;have b:Pl' (m+1) fun x=>r x*(x+μ):=hr.mul (m:=1) (Pl'.x.add ((Pl'.const μ).mono (by decide)));refine ⟨_,a.add b,fun x=>?_⟩;have e1:((m+1:Nat):Rat)=(m:Rat)+1:=by norm_cast
  rw [aY,e,e1,aY x (m+1),aY x m];generalize x^m=y;generalize r x=z;grind
theorem Cw (k:Nat):∃ R C,Po.Fm R C/\(∀ x,E R C x=x^k)/\∀ i,q R C i=if i=k then 1 else 0:=by
 obtain ⟨R,C,f,h⟩:=EQ 1 k;refine ⟨R,C,f,fun x=>J7 f.pos (fun i=>?_) x,h⟩;have hc:=sQ f.pos;have:=h i;unfold q at this;by_cases y:i=k
 ·rw [if_pos y] at this ⊢;exact de.mp (by grind)
 ·rw [if_neg y] at this ⊢;exact dD.mp (by grind)
theorem KI {P:List Int}{B:Int}(fP:Po.Fm P B){m:Nat}{c d:Rat}{r:Rat->Rat}(hr:Pl' m r)(e:∀ x,E P B x=c*x^(m+1)+(d*x^m+r x)):q P B (m+1)=c/\q P B m=d:=by
 obtain ⟨R,C,fR,eR,lR⟩:=hr;obtain ⟨X1,c1,f1,e1,h1⟩:=Cw (m+1);obtain ⟨X2,c2,f2,e2,h2⟩:=Cw m;obtain ⟨S,s,fS,eS⟩:=(Pf.const d).mul (Pf.of f2);have eS:∀ x,E S s x=d*E X2 c2 x:=eS;obtain ⟨T,t,fT,eT⟩:=(Pf.of fS).add (Pf.of fR);have eT:∀ x,E T t x=E S s x+E R C x:=eT;have a:∀ i,q P B i=c*q X1 c1 i+q T t i:=uI fP f1 fT fun x=>by rw [e,e1,eT,eS,e2,eR]
 have b:∀ i,q T t i=d*q X2 c2 i+q R C i:=uI fT f2 fR fun x=>by rw [eT,eS]
 constructor
 ·rw [a,b,h1,h2,if_pos rfl,if_neg (by omega),tU (P:=R) (by omega)];grind
 ·rw [a,b,h1,h2,if_neg (by omega),if_pos rfl,tU (P:=R) (by omega)];grind
def Mu (f:Rat->Rat)(L μ:Rat)(m:Nat):Prop:=∃ r,Pl' (m-1) r/\∀ x,f x=L*(x+μ)^m+r x
theorem Mu.congr {f g:Rat->Rat}{L μ:Rat}{m:Nat}(h:Mu f L μ m)(e:∀ x,f x=g x):Mu g L μ m:=by
 obtain ⟨r,hr,e'⟩:=h;exact ⟨r,hr,fun x=>by rw [← e,e']⟩
theorem Mu.get {P:List Int}{B:Int}{L μ:Rat}{m:Nat}(fP:Po.Fm P B)(h:Mu (E P B) L μ (m+1)):q P B (m+1)=L/\q P B m=L*(((m:Rat)+1)*μ):=by
 obtain ⟨r,hr,e⟩:=h;obtain ⟨r',hr',e'⟩:=BU μ m;refine KI fP (hr.add (hr'.smul L)) fun x=>?_;rw [e,e'];generalize x^m=y;grind
theorem Mu.of {P:List Int}{B:Int}{m:Nat}(fP:Po.Fm P B)(lP:P.length=m+2):Mu (E P B) (q P B (m+1)) (q P B m / ((((m:Rat)+1))*q P B (m+1))) (m+1):=by
 have l0:q P B (m+1)≠0:=by
  have:=t9 fP (by intro e;rw [e] at lP;simp at lP);rwa [lP] at this
 have m0:((m:Rat)+1)≠0:=by
  have:((m:Rat)+1)=((m+1:Nat):Rat):=by norm_cast
  rw [this];intro z;have:=cV.mp z;omega
 obtain ⟨r',hr',e'⟩:=BU (q P B m / ((((m:Rat)+1))*q P B (m+1))) m;have rp:∀ n,Pl' n fun x=>rs n fun j=>q P B j*x^j:=by
  intro n;induction n with
  | zero=>exact BZ 0
  | succ n ih=>exact ((ih.mono (by omega)).add (((Pl'.x.pow (s:=1) n).mono (by omega)).smul (q P B n))).congr fun x=>rfl
 refine ⟨_,(rp m).add (hr'.smul (-(q P B (m+1)))),fun x=>?_⟩;rw [MP (N:=m+2) (by omega),e'];show rs m _+q P B m*x^m+q P B (m+1)*x^(m+1)=_;generalize (rs m fun j=>q P B j*x^j)=z;generalize x^m=y;generalize x^(m+1)=w;generalize r' x=v;grind
theorem FJ {s:Nat}{A t:Rat->Rat}(hA:Pl' (s+3) A)(ht:Pl' (s+1) t):∀ m:Nat,Pl' ((m+1)*(s+2)-1) fun x=>(A x+t x)^(m+1)-A x^(m+1)
 | 0=>ht.congr (fun x=>by grind) |>.mono (by omega)
 | m+1=>by
  have a:=FJ hA ht m;have b:Pl' (s+3) fun x=>A x+t x:=hA.add (ht.mono (by omega));have c:Pl' (s+1+(s+2)*(m+1)) fun x=>t x*A x^(m+1):=ht.mul (hA.pow (s:=s+2) (m+1));have e:(m+1+1)*(s+2)=(m+1)*(s+2)+(s+2):=bo _ _;have e2:(s+2)*(m+1)=(m+1)*(s+2):=bQ _ _;have p:s+2<=(m+1)*(s+2):=aQ _ (by omega);refine (((a.mul (m:=s+2) b).mono (by omega)).add (c.mono (by omega))).congr fun x=>?_;show ((A x+t x)^(m+1)-A x^(m+1))*(A x+t x)+t x*A x^(m+1)=(A x+t x)^(m+1+1)-A x^(m+1+1);rw [aY (A x+t x) (m+1),aY (A x) (m+1)];generalize (A x+t x)^(m+1)=u;generalize A x^(m+1)=v;grind
theorem Am (x:Rat)(a b:Nat):x^(a+b)=x^a*x^b:=by
 induction b with
 | zero=>rw [gT,bC,g7]
 | succ b ih=>rw [← eJ,aY,ih,aY,Rat.mul_assoc]
theorem Er (x:Rat)(a b:Nat):(x^a)^b=x^(a*b):=by
 induction b with
 | zero=>rw [gg,bC,bC]
 | succ b ih=>rw [aY,ih,bJ,Am]
theorem Au (x y:Rat)(a:Nat):(x*y)^a=x^a*y^a:=by
 induction a with
 | zero=>rw [bC,bC,bC,g7]
 | succ a ih=>rw [aY,ih,aY,aY];grind
theorem Kt (ν:Rat):Pl' 2 fun x=>x+ν:=Pl'.x.add ((Pl'.const ν).mono (by decide))
theorem Mu.comp {f g:Rat->Rat}{L μ b ν:Rat}{m s:Nat}(hf:Mu f L μ (m+1))(hg:Mu g b ν (s+2)):Mu (fun x=>f (g x)) (L*b^(m+1)) ν ((m+1)*(s+2)):=by
 obtain ⟨r,hr,e⟩:=hf;obtain ⟨r',hr',e'⟩:=hg;have hr':Pl' (s+1) r':=hr';have hr:Pl' m r:=hr;have hA:Pl' (s+3) fun x=>b*(x+ν)^(s+2):=(((Kt ν).pow (s:=1) (s+2)).mono (by omega)).smul b;have ht:Pl' (s+1) fun x=>r' x+μ:=hr'.add ((Pl'.const μ).mono (by omega));have d:=(FJ hA ht m).smul L;have gp:Pl' (s+3) g:=(hA.add (hr'.mono (by omega))).congr fun x=>(e' x).symm;have hm:s+2<=(m+1)*(s+2):=aQ _ (by omega);have rg:Pl' ((m+1)*(s+2)-1) fun x=>r (g x):=by
  obtain ⟨R,C,fR,eR,lR⟩:=hr;refine ((Pl'.comp (P:=R) (B:=C) (s:=s+2) gp).congr fun x=>eR (g x)).mono ?_;have:(s+2)*(R.length-1)<=(s+2)*(m-1):=ak _ (by omega);have h2:(s+2)*(m-1)+(s+2)<=(m+1)*(s+2):=by
   rw [bQ (s+2),← bo];exact bI _ (by omega)
  omega
 refine ⟨_,d.add rg,fun x=>?_⟩;have k1:g x+μ=b*(x+ν)^(s+2)+(r' x+μ):=by rw [e'];grind
 dsimp only;rw [e,k1,show (m+1)*(s+2)=(s+2)*(m+1) from bQ _ _,← Er];have k2:=Au b ((x+ν)^(s+2)) (m+1);generalize (b*(x+ν)^(s+2)+(r' x+μ))^(m+1)=u;generalize ((x+ν)^(s+2))^(m+1)=v at *;rw [k2];generalize r (g x)=w;generalize b^(m+1)=z;grind
theorem Mu.lin {f:Rat->Rat}{L μ c d:Rat}{m:Nat}(hf:Mu f L μ (m+2))(c0:c≠0):Mu (fun x=>f (c*x+d)) (L*c^(m+2)) ((d+μ) / c) (m+2):=by
 obtain ⟨r,hr,e⟩:=hf;have hr:Pl' (m+1) r:=hr;have lp:Pl' 2 fun x=>c*x+d:=(Pl'.x.smul c).add ((Pl'.const d).mono (by decide));have rg:Pl' (m+1) fun x=>r (c*x+d):=by
  obtain ⟨R,C,fR,eR,lR⟩:=hr;exact ((Pl'.comp (P:=R) (B:=C) (s:=1) lp).congr fun x=>eR (c*x+d)).mono (by omega)
 refine ⟨_,rg,fun x=>?_⟩;have k1:c*x+d+μ=c*(x+(d+μ) / c):=by grind
 dsimp only;rw [e,k1,Au];grind
def xG (f:Rat->Rat):Nat->Rat->Rat
 | 0,x=>x
 | k+1,x=>xG f k (f x)
theorem xh (f:Rat->Rat):∀ (k:Nat) (x:Rat),xG f (k+1) x=f (xG f k x)
 | 0,_=>rfl
 | k+1,x=>xh f k (f x)
def LP (s:Nat):Nat->Nat
 | 0=>0
 | k+1=>LP s k+s^k
theorem Bs {f:Rat->Rat}{b ν:Rat}{s:Nat}(h:Mu f b ν (s+2)):∀ k:Nat,Mu (xG f (k+1)) (b^LP (s+2) (k+1)) ν ((s+2)^(k+1))
 | 0=>by
  show Mu f (b^(0+(s+2)^0)) ν ((s+2)^(0+1));rw [Nat.pow_zero,gR,Nat.pow_one,aY,bC,Rat.one_mul];exact h
 | k+1=>by
  have ih:=Bs h k;obtain ⟨m,hm⟩:∃ m,(s+2)^(k+1)=m+1:=⟨(s+2)^(k+1)-1,by have:=bA (n:=k+1) (show 0<s+2 by omega);omega⟩;rw [hm] at ih;have c:=ih.comp h;rw [← hm,← cZ,← Am] at c;exact c
theorem yr {H:List Int}{V:Int}{s:Nat}(fH:Po.Fm H V)(lH:H.length=s+1)(s1:1<=s):∀ k:Nat,∃ W w,Po.Fm W w/\W.length=s^k+1/\∀ x,E W w x=xG (E H V) k x
 | 0=>⟨Pc.X,1,Pc.FK,rfl,fun x=>Hl x⟩
 | k+1=>by
  obtain ⟨W,w,fW,lW,eW⟩:=yr fH lH s1 k;obtain ⟨R,C,o⟩:=xC fW fH;have e:∀ x,E R C x=E W w (E H V x):=fun x=>AV fW.pos fH.pos o x;exact ⟨R,C,o.1,by rw [cZ];exact xR fW lW fH lH s1 o.1 e,fun x=>by rw [e,eW];rfl⟩
theorem EN {H:List Int}{V:Int}{s:Nat}(fH:Po.Fm H V)(lH:H.length=s+1)(s1:1<=s):∃ A α,Po.Fm A α/\A.length=s+1/\A.getD s 0=α/\A.getD 0 0=0/\(∀ x,E H V x=q H V s*E A α x+q H V 0)/\∀ i,1<=i->q H V i=q H V s*q A α i:=by
 have b0:q H V s≠0:=by
  have:=t9 fH (by intro e;rw [e] at lH;simp at lH);rwa [lH] at this
 obtain ⟨A,α,fA,hA⟩:=Ib (fun i=>if i=0 then 0 else q H V i / q H V s) (s+1);have qs:q A α s=1:=by
  rw [hA,if_pos (by omega),if_neg (by omega)];grind
 have q0:q A α 0=0:=by rw [hA,if_pos (by omega),if_pos rfl]
 have a0:=sQ fA.pos;have mA:A.getD s 0=α:=by
  unfold q at qs;exact de.mp (by grind)
 have z0:A.getD 0 0=0:=by
  unfold q at q0;exact dD.mp (by grind)
 have lA:A.length=s+1:=by
  rcases ao s A.length with y | y
  ·rcases ao (s+1) A.length with z | z
   ·refine absurd ?_ (t9 fA (by rintro rfl;simp at y));rw [hA,if_neg (by omega)]
   ·omega
  ·rw [tU y] at qs;exact absurd qs (by decide)
 have qq:∀ i,1<=i->q H V i=q H V s*q A α i:=fun i hi=>by
  rw [hA];by_cases y:i<s+1
  ·rw [if_pos y,if_neg (by omega)];grind
  ·rw [if_neg y,tU (by omega)];grind
 refine ⟨A,α,fA,lA,mA,z0,?_,qq⟩;obtain ⟨r,fr,er,_,_⟩:=EW (p:=(A,α)) fA (q H V 0) b0;obtain ⟨S,d,fS,eS,lS⟩:=Pl'.const (q H V 0);have ql:=uI (u:=q H V s) fr fA fS (fun x=>by rw [er,eS]);obtain ⟨e1,e2⟩:=KK fH fr fun i=>by
  rw [ql i];rcases dA i with y | y
  ·subst y;rw [q0,← vE (P:=S),eS];grind
  ·rw [qq i y,tU (P:=S) (by omega)];grind
 intro x;rw [← er x,e1,e2]
theorem Fo {P:List Int}{B:Int}{m:Nat}(fP:Po.Fm P B)(lP:P.length=m+1)(m1:1<=m):Cn P m 1 Pc.X 1:=by
 obtain ⟨G,U,c⟩:=Il (P:=P) (k:=m) (s:=1) m1 (am _) (by rw [dZ];exact uF fP lP);have c':=c;obtain ⟨fG,lG,cG⟩:=c';obtain ⟨mG,G0⟩:=v6 cG (am _);have U0:=Qp.sQ fG.pos;obtain ⟨rfl,rfl⟩:=Qp.tS fG Pc.Hk.fm fun y=>by
  rw [Qp.Hl,Qp.yI (by omega),show G.getD 0 0=0 from G0,show G.getD 1 0=U from mG];show (0:Rat) / _+_=_;grind
 exact c
theorem DB {H A:List Int}{V α:Int}{k s:Nat}(k1:1<=k)(s1:1<=s)(fH:Po.Fm H V)(lH:H.length=k*s+1)(fA:Po.Fm A α)(lA:A.length=s+1)(mA:A.getD s 0=α)(A0:A.getD 0 0=0)(h:LN H V A α):Cn H k s A α:=by
 obtain ⟨W,w,fW,eW⟩:=h;have lW:=Co s1 fH lH fA lA fW eW;have c:=Ha (l:=1) k1 (am _) s1 fH fA lA mA A0 fW (by rw [dZ];exact lW) eW (Fo fW lW k1) fA fun x=>by rw [Hl]
 rw [fh] at c;exact c
def Ag (P:List Int)(B:Int)(k:Nat)(H:List Int)(V:Int):Prop:=Po.Fm H V/\∀ x,xG (E H V) k x=E P B x
def wl (R:List Int)(C:Int)(G:List Int)(U:Int)(n s:Nat)(b:Rat):Rat:=b*q R C (n-1) / ((n:Rat)*q R C n)-q G U (s-1) / (s:Rat)
theorem vK {P H:List Int}{B V:Int}{k n:Nat}(fP:Po.Fm P B)(lP:P.length=n+1)(n2:1<=n)(h:Ag P B k H V):∃ s,H.length=s+1/\s^k=n\/k=0:=by
 obtain ⟨fH,e⟩:=h;rcases dA k with y | y
 ·exact ⟨0,.inr y⟩
 match hl:H.length with
 | 0 =>
  have hn:H=[]:=cX hl;obtain ⟨j,rfl⟩:∃ j,k=j+1:=⟨k-1,by omega⟩;have:P=[]:=(tS fP xD fun x=>by rw [← e,xh,hn,v9,v9]).1;rw [this] at lP;cases lP
 | 1 =>
  obtain ⟨j,rfl⟩:∃ j,k=j+1:=⟨k-1,by omega⟩;obtain ⟨S,d,fS,eS,lS⟩:=Pl'.const (E H V 0);have:P=S:=(tS fP fS fun x=>by
   rw [← e,xh,eS,yI (by omega),yI (by omega),sS (fs:=H) (i:=1) (by omega)];show _+(0:Rat) / _*_=_+(0:Rat) / _*_;grind).1
  rw [this] at lP;omega
 | s+2 =>
  obtain ⟨W,w,fW,lW,eW⟩:=yr fH (s:=s+1) hl (by omega) k;have:P=W:=(tS fP fW fun x=>by rw [← e,eW]).1;rw [this] at lP;exact ⟨s+1,.inl ⟨rfl,by omega⟩⟩
theorem vc {P H:List Int}{B V:Int}{k s:Nat}(fP:Po.Fm P B)(lH:H.length=s+3)(h:Ag P B (k+1) H V):q P B ((s+2)^(k+1))=q H V (s+2)^LP (s+2) (k+1):=by
 obtain ⟨fH,e⟩:=h;have m:=Bs (Mu.of fH (m:=s+1) (by omega)) k;obtain ⟨m',hm⟩:∃ m,(s+2)^(k+1)=m+1:=⟨(s+2)^(k+1)-1,by have:=bA (n:=k+1) (show 0<s+2 by omega);omega⟩;have m2:=m.congr e;rw [show s+1+1=s+2 from rfl] at m2;rw [hm] at m2 ⊢;exact (m2.get fP).1
theorem AT {P H G R:List Int}{B V U C:Int}{k s n:Nat}(en:n=(s+2)^(k+1))(fP:Po.Fm P B)(lP:P.length=n*(s+2)+1)(lH:H.length=s+3)(h:Ag P B (k+2) H V)(cG:Cn P n (s+2) G U):LN P B G U/\(Po.Fm R C->(∀ x,E P B x=E R C (E G U x))->∀ x,E H V x=q H V (s+2)*E G U x+wl R C G U n (s+2) (q H V (s+2))):=by
 obtain ⟨fH,e⟩:=h;have n1:1<=n:=by rw [en];exact bA (by omega)
 have n2:2<=n:=by
  rw [en,cZ];have:=bA (n:=k) (show 0<s+2 by omega);have:=aQ (s+2) this;omega
 obtain ⟨A,α,fA,lA,mA,A0,eA,qA⟩:=EN fH (s:=s+2) lH (by omega);have b0:q H V (s+2)≠0:=by
  have:=t9 fH (by intro e;rw [e] at lH;simp at lH);rwa [lH] at this
 obtain ⟨W,w,fW,lW,eW⟩:=yr fH (s:=s+2) lH (by omega) (k+1);obtain ⟨T,t,fT,lT,_,q1,eT⟩:=Hu (q H V (s+2)) (q H V 0) b0;obtain ⟨S,d,o⟩:=xC fW fT;have fS:=o.1;have eS:∀ y,E S d y=xG (E H V) (k+1) (q H V (s+2)*y+q H V 0):=fun y=>by rw [AV fW.pos fT.pos o,eT,eW]
 have eP:∀ x,E P B x=E S d (E A α x):=fun x=>by
  rw [← e,eS,← eA];rfl
 have oA:LN P B A α:=⟨S,d,fS,eP⟩;have cA:=DB n1 (by omega) fP lP fA lA mA A0 oA;have hL:P.getD (n*(s+2)) 0≠0:=uF fP lP;obtain ⟨fG,lG,cG'⟩:=cG;obtain ⟨rfl,rfl⟩:=Ca.Cand.uniq n1 hL fG cA.1 lG cA.2.1 cG' cA.2.2;refine ⟨oA,fun fR eR x=>?_⟩;obtain ⟨rfl,rfl⟩:=EH fG lG (by omega) fR fS fun x=>by rw [← eR,← eP]
 have mu:=Bs (Mu.of fH (m:=s+1) (by omega)) k;obtain ⟨j,hj⟩:∃ j,(s+1+1)^(k+1)=j+2:=⟨n-2,by rw [show s+1+1=s+2 from rfl,← en];omega⟩;rw [hj] at mu;have ml:=mu.lin (d:=q H V 0) b0;have ml:=ml.congr fun y=>(eS y).symm;obtain ⟨g1,g2⟩:=ml.get fR;have nj:n=j+2:=by rw [en];exact hj
 have lR:q R C (j+1+1)≠0:=by
  rw [g1];intro z;rcases cw.mp z with z | z
  ·exact uA b0 _ z
  ·exact uA b0 _ z
 rw [eA];congr 1;unfold wl;have hn1:n-1=j+1:=by omega
 rw [hn1,show n=j+1+1 from nj,g2,g1,show s+2-1=s+1 from rfl];rw [g1] at lR;have qs:=qA (s+1) (by omega);have c1:((j+1+1:Nat):Rat)=((j+1:Nat):Rat)+1:=by norm_cast
 have c2:((s+2:Nat):Rat)=((s+1:Nat):Rat)+1:=by norm_cast
 have p1:((j+1:Nat):Rat)+1≠0:=by
  rw [← c1];intro z;have:=cV.mp z;omega
 have p2:((s+1:Nat):Rat)+1≠0:=by
  rw [← c2];intro z;have:=cV.mp z;omega
 rw [c1,c2];rw [show s+1+1=s+2 from rfl] at *;generalize q H V (s+2)^LP (s+2) (k+1)*q H V (s+2)^(j+2)=L at *;generalize q H V (s+2)=b at *;generalize q H V (s+1)=h1 at *;generalize q G U (s+1)=g at *;generalize ((j+1:Nat):Rat)+1=N at *;generalize ((s+1:Nat):Rat)+1=M at *;generalize q H V 0=c;grind
end Dp
namespace Dp
open PySem L2
theorem xI:∀ {A B:List Int},A.map D.int=B.map D.int->A=B
 | [],[],_=>rfl
 | x::A,y::B,h=>by
  injection h with h1 h2;injection h1 with h1;rw [h1,xI h2]
def kv:SpB:=.of 2 (α:=Nat×Nat) (fun (s,k) ds=>ds=[.int s,.int k]/\s<=100/\k<=20) (fun (s,k) d=>d = .int (LP s k:Nat))
def pL:TSd:=(iP [] (dB bSum bSum.mono (iH (iT (ms (iI 1)) [2] (gNm 2) i9 (iK iM (iH (iI 0) (iH (iI 2) iJ)))) iJ)))
theorem EU (s:Nat):∀ (k:Nat) (us:List Int),us.length=k->(∀ j,j<k->us.getD j 0=(s:Int)^j)->us.sum=((LP s k:Nat):Int)
 | 0,us,l,_=>by
  rw [cX l];rfl
 | k+1,us,l,h=>by
  have e:us=us.dropLast++[us.getD k 0]:=by
   have ne:us≠[]:=by intro z;rw [z] at l;cases l
   have:=List.dropLast_concat_getLast ne;rw [List.getLast_eq_getElem] at this;rw [ac,aq (by omega)];simp only [l,bK] at this;exact this.symm
  rw [e,List.sum_append,EU s k us.dropLast (by rw [dJ,l];rfl) fun j hj=>by
   rw [← h j (by omega)];conv=>rhs;rw [e]
   rw [ac,ac,bx (by rw [dJ];omega)],h k (by omega)]
  show _+((s:Int)^k+0)=((LP s k+s^k:Nat):Int);rw [Int.natCast_add,cP];omega
theorem mO:Does 3 pL kv:=by
 rintro ds Q hn ⟨⟨s,k⟩,⟨rfl,s1,k1⟩,q⟩;dsimp only at s1 k1 q;have lu:(ve 0 ((k:Nat):Int).toNat).length=k:=by rw [tq];omega
 refine ⟨by omega,by omega,(congrArg (· <= sizeLine) lu).mpr (vf (by omega)),nI (fun j=>(s:Int)^j),nI.nil,fun m d ys hd _ hy=>?_,fun ys _ hy=>?_⟩
 ·obtain ⟨hm,rfl⟩:=tK hd;rw [aS] at hm;refine ⟨rfl,((s:Int),m,7),⟨?_,by unfold Lt2;omega,by show m<=200;omega,by show (7+1)*(m+1)<=400000;omega⟩,?_⟩
  ·show [D.int s,.int (0+(m:Int))]=_;rw [cJ]
  rintro _ rfl;exact hy.snoc rfl
 ·have hy:nI _ (ve 0 ((k:Nat):Int).toNat).length ys:=hy;rw [lu] at hy;obtain ⟨us,rfl,l,h⟩:=hy;exact ⟨us,rfl,q _ (by rw [EU s k us l h])⟩
def wB (n1 b1 b2 b3:Nat):Nat:=b2+b3+(b3+b1+7+n1+(b2+7))
def wT (n1 b1 n2 b2 n3 b3:Nat):Nat:=n2+n3+b2+b3+(n3+n1+1+b1+(b2+7)+(n2+1+(b3+b1+7+n1))+1)+(b3+b1+7+n1+(b2+7))+1
def jS:SpB:=.of 3 (α:=(List Int×Int×List Int×Int)×D×Rat×(Nat×Nat)×Nat×Nat×Nat×Nat×Nat×Nat) (fun ((R,C,G,U),d,r,(n,s),n1,b1,n2,b2,n3,b3) ds=>ds=[pD R C,pD G U,d]/\FqD n3 b3 d r/\Pc.Pz n1 b1 R C/\R.length=n+1/\1<=n/\n<=100/\Pc.Pz n2 b2 G U/\G.length=s+1/\1<=s/\s<=100/\wB n1 b1 b2 b3<=900000/\wT n1 b1 n2 b2 n3 b3<=1000000)
 (fun ((R,C,G,U),_,r,(n,s),n1,b1,n2,b2,n3,b3) d=>∃ W w,d=pD W w/\Pc.Pz (wT n1 b1 n2 b2 n3 b3) (wB n1 b1 b2 b3) W w/\∀ x,Qp.E W w x=r*Qp.E G U x+wl R C G U n s r)
def og:TSd:=(iP [] (iK rh (iH (iK oD (iH (iI 1) (iH (iI 2) iJ))) (iH (iK jK (iH (iY (iH (iK ni (iH (iI 5) (iH (iI 6) iJ))) iJ)) iJ)) iJ))))
def oh:TSd:=dSq (iO [] (gNm 6) (iK jh (iH (iK iX (iH (iI 1) (iH (iL .Sub (iI 4) (dC (.int 1))) iJ))) (iH (iZ (iH (iI 4) (iH (dC (.int 1)) iJ))) iJ))))
 og
def jI:TSd:=dSq (iO [] (gNm 5) (iK jh (iH (iK jH (iH (iI 2) (iH (iK iX (iH (iI 0) (iH (iL .Sub (iI 3) (dC (.int 1))) iJ))) iJ))) (iH (iK jH (iH (iZ (iH (iI 3) (iH (dC (.int 1)) iJ))) (iH (iK m4 (iH (iI 0) iJ)) iJ))) iJ))))
 oh
def qw:TSd:=dSq (mt [] 3 4 (iK i8 (iH (iI 0) iJ)) (iK i8 (iH (iI 1) iJ)))
 jI
theorem nr:Does 7 qw jS:=by
 rintro ds Q hn ⟨⟨⟨R,C,G,U⟩,d,r,⟨n,s⟩,n1,b1,n2,b2,n3,b3⟩,⟨rfl,fa,zR,lR,n1',n100,zG,lG,s1,s100,hB,hT⟩,q⟩;dsimp only at fa zR lR n1' n100 zG lG s1 s100 hB hT q;unfold wB at hB;unfold wT at hT;have lead0:Qp.q R C n≠0:=by
  have:=Qp.t9 zR.fm (by intro e;rw [e] at lR;simp at lR);rwa [lR] at this
 have ln:Lt2 7 ((n:Nat):Int):=by unfold Lt2;omega
 have ls:Lt2 7 ((s:Nat):Int):=by unfold Lt2;omega
 have n0:((n:Nat):Rat)≠0:=fun z=>by have:=cV.mp z;omega
 have s0:((s:Nat):Rat)≠0:=fun z=>by have:=cV.mp z;omega
 refine ⟨rfl,(R,C),rfl,?_⟩;rintro _ rfl;refine ⟨rfl,(G,U),rfl,?_⟩;rintro _ rfl;suffices h1:jI.run (tf Q) [.val (pD R C),.val (pD G U),.val d,.val (.int n),.val (.int s),.no,.no] by
  show jI.run (tf Q) [.val (pD R C),.val (pD G U),.val d,.val (.int ((R.length:Int)-1)),.val (.int ((G.length:Int)-1)),.no,.no];rw [lR,lG,show ((n+1:Nat):Int)-1=(n:Int) by omega,show ((s+1:Nat):Int)-1=(s:Int) by omega];exact h1
 refine ⟨rfl,(R,C,n-1,n1,b1),⟨?_,zR,by show b1<=9000000;omega⟩,?_⟩
 ·show [pD R C,.int ((n:Int)-1)]=[pD R C,.int ((n-1:Nat):Int)];rw [show (n:Int)-1=((n-1:Nat):Int) by omega]
 intro d1 f1;have f1:FqD n1 b1 d1 (Qp.q R C (n-1)):=f1;refine ⟨rfl,(d,d1,r,Qp.q R C (n-1),n3,b3,n1,b1),⟨rfl,fa,f1,by omega,by omega⟩,?_⟩;intro d2 f2;have f2:FqD (n3+n1) (b3+b1) d2 (r*Qp.q R C (n-1)):=f2;refine ⟨ur,rfl,(R,C,n,n1,b1),⟨rfl,lR,zR,by show b1<=9000000;omega⟩,?_⟩;intro d3 f3;have f3:FqD n1 b1 d3 (Qp.q R C n):=f3;refine ⟨rfl,(fD n 1,d3,((n:Int):Rat),Qp.q R C n,7,1,n1,b1),⟨rfl,ua ln,f3,by omega,by omega⟩,?_⟩;intro d4 f4;have f4:FqD (7+n1) (1+b1) d4 (((n:Int):Rat)*Qp.q R C n):=f4;have cn:((n:Int):Rat)=((n:Nat):Rat):=rfl;have cs:((s:Int):Rat)=((s:Nat):Rat):=rfl;refine ⟨rfl,(d2,d4,_,_,n3+n1,b3+b1,7+n1,1+b1),⟨rfl,f2,f4,?_,by omega,by omega⟩,?_⟩
 ·intro z;rcases cw.mp z with z | z
  ·exact n0 z
  ·exact lead0 z
 intro d5 f5;have f5:FqD (n3+n1+(1+b1)) (b3+b1+(7+n1)) d5 (r*Qp.q R C (n-1) / (((n:Int):Rat)*Qp.q R C n)):=f5;refine ⟨rfl,(G,U,s-1,n2,b2),⟨?_,zG,by show b2<=9000000;omega⟩,?_⟩
 ·show [pD G U,.int ((s:Int)-1)]=[pD G U,.int ((s-1:Nat):Int)];rw [show (s:Int)-1=((s-1:Nat):Int) by omega]
 intro d6 f6;have f6:FqD n2 b2 d6 (Qp.q G U (s-1)):=f6;refine ⟨ur,rfl,(d6,fD s 1,Qp.q G U (s-1),((s:Int):Rat),n2,b2,7,1),⟨rfl,f6,ua ls,s0,by omega,by omega⟩,?_⟩;intro d7 f7;have f7:FqD (n2+1) (b2+7) d7 (Qp.q G U (s-1) / ((s:Int):Rat)):=f7;refine fa.elim fun t fa'=>fa'.elim fun u fa''=>?_;obtain ⟨rfl,u0,gc,lt,lu,er⟩:=fa'';refine ⟨rfl,(G,U,t,u,n2,b2,n3,b3),⟨rfl,zG,u0,lt,lu,by omega,by omega,by omega⟩,?_⟩;rintro _ ⟨S,e,rfl,fS,wS,lS⟩;have wS:∀ k,S.getD k 0*(U*u)=(G.getD k 0*t)*e:=wS;have lS:S.length<=G.length:=lS;have zS:Pc.Pz (n2+n3) (b2+b3) S e:=Pc.Pz.of fS (az zG.fm.pos u0) wS (fun k=>(zG.tops k).mul lt) (zG.bot.mul lu);refine ⟨rfl,(d5,d7,_,_,n3+n1+(1+b1),b3+b1+(7+n1),n2+1,b2+7),⟨rfl,f5,f7,by omega,by omega,by omega⟩,?_⟩;intro d8 f8;have f8:FqD (n3+n1+(1+b1)+(b2+7)+(n2+1+(b3+b1+(7+n1)))+1) (b3+b1+(7+n1)+(b2+7)) d8 (r*Qp.q R C (n-1) / (((n:Int):Rat)*Qp.q R C n)-Qp.q G U (s-1) / ((s:Int):Rat)):=f8;obtain ⟨t8,u8,rfl,u80,g8,lt8,lu8,e8⟩:=f8;refine ⟨Ba,rfl,([(t8,u8)],u8,n3+n1+(1+b1)+(b2+7)+(n2+1+(b3+b1+(7+n1)))+1),⟨rfl,fun f hf=>?_,by show 1<=100;decide,u80,lu8.mono (by omega),by show _<=10000000;omega⟩,?_⟩
 ·rw [av.mp hf];exact ⟨u80,lt8,gr _⟩
 rintro _ ⟨T,v,rfl,fT,wT',lT,vd⟩;have lT:T.length<=1:=lT;have w0:T.getD 0 0*u8=t8*v:=wT' 0;have wk:∀ k,T.getD k 0*u8=([t8]:List Int).getD k 0*v:=fun k=>by
  cases k with
  | zero=>exact w0
  | succ k =>
   rw [sS (by omega),sS (fs:=([t8]:List Int)) (by simp)];simp
 have zT:Pc.Pz (n3+n1+(1+b1)+(b2+7)+(n2+1+(b3+b1+(7+n1)))+1) (b3+b1+(7+n1)+(b2+7)) T v:=Pc.Pz.of fT u80 wk (fun k=>by
  cases k with
  | zero=>exact lt8
  | succ k=>rw [sS (fs:=([t8]:List Int)) (by simp)];exact wC _) lu8
 refine ⟨rfl,(S,e,T,v,_,_,_,_),⟨rfl,zS,zT,by omega,by omega,by omega,by omega⟩,?_⟩;rintro _ ⟨W,w,rfl,fW,wW⟩;have wW:∀ k,W.getD k 0*(e*v)=(S.getD k 0*v+T.getD k 0*e)*w:=wW;refine q _ ⟨W,w,rfl,Pc.Pz.of fW (az fS.pos fT.pos) wW (fun k=>?_) ((zS.bot.mul zT.bot).mono (by unfold wB;omega)),fun x=>?_⟩
 ·have a:=(zS.tops k).mul zT.bot;have b:=(zT.tops k).mul zS.bot;unfold wT;exact ((a.mono (m:=n2+n3+b2+b3+(n3+n1+1+b1+(b2+7)+(n2+1+(b3+b1+7+n1))+1)+(b3+b1+7+n1+(b2+7))) (by omega)).add (b.mono (by omega)))
 ·have eS:Qp.E S e x=r*Qp.E G U x:=by
   have l:=Qp.wA (x:=x) (N:=G.length) fS.pos (aA (az zG.fm.pos u0)) wS lS;rw [l,show (fun k=>G.getD k 0*t)=(fun k=>Cv.fn G k*t) from rfl,Qp.uV,er];unfold Qp.E;have h1:=Qp.sQ zG.fm.pos;have h2:=Qp.sQ u0;rw [ri];generalize Qp.ei (Cv.fn G) x G.length=y;grind
  have eT:Qp.E T v x=(t8:Rat) / (u8:Rat):=Qp.xl fT u80 wk x;rw [Qp.AU fS.pos fT.pos fW.pos wW,eS,eT,← e8];unfold wl;rfl
def aZ (n b l:Nat):Nat->Nat×Nat
 | 0=>(1,1)
 | j+1=>(n+((aZ n b l j).1+(aZ n b l j).2+10)*l+1,b+((aZ n b l j).2*l+1))
theorem It.e {P:List Int}{B:Int}(hB:0<B):∀ {k:Nat} {R:List Int} {C:Int},Pc.It P B k R C->∀ x,Qp.E R C x=xG (Qp.E P B) k x
 | 0,_,_,⟨rfl,rfl⟩,x=>Qp.Hl x
 | k+1,R,C,⟨S,d,h,o⟩,x=>by
  rw [xh,Qp.AV hB h.fm.pos o,It.e hB h]
theorem It.len {P:List Int}{B:Int}{s:Nat}(fP:Po.Fm P B)(lP:P.length=s+1)(s1:1<=s){k:Nat}{R:List Int}{C:Int}(h:Pc.It P B k R C):R.length=s^k+1:=by
 obtain ⟨W,w,fW,lW,eW⟩:=yr fP lP s1 k;obtain ⟨rfl,rfl⟩:=Qp.tS h.fm fW fun x=>by rw [It.e fP.pos h,eW]
 exact lW
def Hm (l k n b c1 c2:Nat):Prop:=∀ j,j<k->c1*b+(aZ n b l j).2*l<=8900000/\n+((aZ n b l j).1+(aZ n b l j).2+10)*(l+1)<=c2/\l*((l-1)^j+1)<=190/\(l-1)^j+1<=190
def jp:SpB:=.of 2 (α:=List Int×Int×Nat×Nat×Nat×Nat) (fun (P,B,s,k,n,b) ds=>ds=[pD P B,.int k]/\Pc.Pz n b P B/\P.length=s+1/\1<=s/\s<=100/\k<=20/\Hm (s+1) k n b 1 90000000) (fun (P,B,s,k,n,b) d=>∃ R C,d=pD R C/\Pc.It P B k R C)
def rH:TSd:=(iP [] (iI 2))
def rJ:TSd:=dSq (jl [] (ms (iI 1)) (gNm 3)
 (iO [] (gNm 2) (iK pj (iH (iI 0) (iH (iI 2) iJ)))))
 rH
def sy:TSd:=dSq (iO [] (gNm 2) (iK jK (iH (iY (iH (iZ (iH (dC (.int 0)) (iH (dC (.int 1)) iJ))) (iH (iZ (iH (dC (.int 1)) (iH (dC (.int 1)) iJ))) iJ))) iJ)))
 rJ
theorem q8:Does 4 sy jp:=by
 rintro ds Q hn ⟨⟨P,B,s,k,n,b⟩,⟨rfl,z,lP,s1,s100,k20,hz⟩,q⟩;dsimp only at z lP s1 s100 k20 hz q;refine ⟨ur,ur,ur,rfl,([(0,1),(1,1)],1,1),⟨rfl,fun f hf=>?_,by show 2<=100;decide,by decide,Lt2.mono (n:=1) (by decide) (by decide),by show 1<=10000000;decide⟩,?_⟩
 ·rcases au.mp hf with e | e
  ·rw [e];exact ⟨by decide,by decide,by decide⟩
  ·rw [av.mp e];exact ⟨by decide,by decide,by decide⟩
 rintro _ ⟨X,c,rfl,fX,wX,lX,cd⟩;have lX:X.length<=2:=lX;have c1:c=1:=by
  have:=gN (by decide) cd;have:=fX.pos;omega
 subst c1;obtain ⟨rfl,_⟩:=Qp.tS fX Pc.FK fun x=>by
  have w0:X.getD 0 0*1=0*1:=wX 0;have w1:X.getD 1 0*1=1*1:=wX 1;rw [Qp.Hl,Qp.yI lX,show X.getD 0 0=0 by omega,show X.getD 1 0=1 by omega];show (0:Rat) / 1+(1:Rat) / 1*x=x;grind
 refine ⟨by omega,by omega,fun i st=>∃ (o:SD) (R:List Int) (C:Int),st=[.val (pD P B),.val (.int k),.val (pD R C),o]/\Pc.It P B i R C/\Pc.Pz (aZ n b (s+1) i).1 (aZ n b (s+1) i).2 R C,⟨.no,Pc.X,1,rfl,⟨rfl,rfl⟩,Pc.Hk⟩,?_,?_⟩
 ·rintro i d _ hd ⟨o,R,C,rfl,it,zR⟩;obtain ⟨hi,rfl⟩:=tK hd;rw [aS] at hi;obtain ⟨y1,y2,y3,y4⟩:=hz i hi;rw [show s+1-1=s from rfl] at y3 y4;have lR:=It.len z.fm lP s1 it;rw [fh] at y1;refine ⟨rfl,(P,B,R,C,n,b,_,_),⟨rfl,z,zR,by rw [lP];exact y1,by rw [lP];exact y2,by rw [lP,lR];exact y3,by rw [lP];omega,by rw [lR];exact y4⟩,?_⟩;rintro _ ⟨R',C',rfl,o'⟩;have o':Pc.Of P B R C R' C':=o';refine ⟨_,R',C',rfl,⟨R,C,it,o'⟩,?_⟩;have:=o'.size z zR (by rw [lP,lR];omega);rw [lP] at this;exact this
 ·rintro _ ⟨o,R,C,rfl,it,zR⟩;rw [tq,aS] at it;exact q _ ⟨R,C,rfl,it⟩
def kX:SpB:=.of 2 (α:=List Int×Int×Nat×Nat×Nat×Nat) (fun (P,B,s,k,n,b) ds=>ds=[pD P B,.int k]/\Pc.Pz n b P B/\P.length=s+1/\1<=s/\s<=100/\k<=20/\Hm (s+1) k n b 2 400000) (fun (P,B,s,k,n,b) d=>∃ R C,d=pD R C/\Pc.It P B k R C)
def oi:TSd:=(iP [] (iI 2))
def oj:TSd:=dSq (jl [] (ms (iI 1)) (gNm 3)
 (iO [] (gNm 2) (iK ke (iH (iI 0) (iH (iI 2) iJ)))))
 oi
def qx:TSd:=dSq (iO [] (gNm 2) (iZ (iH (iZ (iH (dC (.int 0)) (iH (dC (.int 1)) iJ))) (iH (dC (.int 1)) iJ))))
 oj
theorem nt:Does 4 qx kX:=by
 rintro ds Q hn ⟨⟨P,B,s,k,n,b⟩,⟨rfl,z,lP,s1,s100,k20,hz⟩,q⟩;dsimp only at z lP s1 s100 k20 hz q;refine ⟨ur,ur,by omega,by omega,fun i st=>∃ (o:SD) (R:List Int) (C:Int),st=[.val (pD P B),.val (.int k),.val (pD R C),o]/\Pc.It P B i R C/\Pc.Pz (aZ n b (s+1) i).1 (aZ n b (s+1) i).2 R C,⟨.no,Pc.X,1,rfl,⟨rfl,rfl⟩,Pc.Hk⟩,?_,?_⟩
 ·rintro i d _ hd ⟨o,R,C,rfl,it,zR⟩;obtain ⟨hi,rfl⟩:=tK hd;rw [aS] at hi;obtain ⟨y1,y2,y3,y4⟩:=hz i hi;rw [show s+1-1=s from rfl] at y3 y4;have lR:=It.len z.fm lP s1 it;refine ⟨rfl,(P,B,R,C,n,b,_,_),⟨rfl,z,zR,by rw [lP];show b+b+_<=_;omega,by rw [lP];exact y2,by rw [lP,lR];exact y3,by rw [lP];omega,by rw [lR];exact y4⟩,?_⟩;rintro _ ⟨R',C',rfl,o'⟩;have o':Pc.Of P B R C R' C':=o';refine ⟨_,R',C',rfl,⟨R,C,it,o'⟩,?_⟩;have:=o'.size z zR (by rw [lP,lR];omega);rw [lP] at this;exact this
 ·rintro _ ⟨o,R,C,rfl,it,zR⟩;rw [tq,aS] at it;exact q _ ⟨R,C,rfl,it⟩
end Dp
namespace Dp
open PySem L2 Ch
theorem pD_iff {A A':List Int}{B B':Int}:[D.tup (A.map D.int),.int B]=[D.tup (A'.map D.int),.int B']↔A=A'/\B=B':=⟨fun e=>by
  injection e with e1 e2;injection e2 with e2 _;injection e1 with e1;injection e2 with e2;exact ⟨xI e1,e2⟩,fun ⟨a,b⟩=>by rw [a,b]⟩
theorem Br:∀ {ys:List D} {Φ:Nat->Pl->Prop},(∀ i y,ys[i]? = some y->∃ p,y=pq p/\Φ i p)->∃ ps:List Pl,ys=ps.map pq/\∀ i p,ps[i]? = some p->Φ i p
 | [],_,_=>⟨[],rfl,fun i p h=>by cases h⟩
 | y::ys,Φ,h=>by
  obtain ⟨p,rfl,hp⟩:=h 0 y rfl;obtain ⟨ps,rfl,hps⟩:=Br (ys:=ys) (Φ:=fun i=>Φ (i+1)) fun i y hy=>h (i+1) y hy;refine ⟨p::ps,rfl,fun i q hq=>?_⟩;cases i with
  | zero=>cases hq;exact hp
  | succ i=>exact hps i q hq
theorem F3 {t b:Int}{k:Nat}{fs:List (Int×Int)}(h:Rt.RtV t b k fs)(k1:1<=k)(b0:0<b):fs.Pairwise fun f g=>((f.1:Rat) / (f.2:Rat))<((g.1:Rat) / (g.2:Rat)):=by
 obtain ⟨o,u,ho,hu,rfl⟩:=h;split
 ·exact .nil
 rename_i c;split
 ·exact eN _ _
 split
 ·rename_i c2;have u0:0<u:=by
   rcases iA hu.pos with y | y
   ·exact y
   ·exfalso;apply c;refine .inr (.inr ?_);rw [← y,Int.zero_pow (by omega)];omega
  refine ip.mpr ?_;show ((-o:Int):Rat) / (u:Rat)<(o:Rat) / (u:Rat);have hu':(0:Rat)<(u:Rat):=eZ.mpr u0;have ho':(0:Rat)<(o:Rat):=eZ.mpr c2.2;have e:((-o:Int):Rat) = -(o:Rat):=gB o;rw [e];have hd:(0:Rat)<(o:Rat) / (u:Rat):=by
   rw [Rat.div_def];exact gy ho' (Rat.inv_pos.mpr hu')
  have e2 : -(o:Rat) / (u:Rat) = -((o:Rat) / (u:Rat)):=by grind
  rw [e2];generalize (o:Rat) / (u:Rat)=z at *;grind
 ·exact eN _ _
theorem GK {W G:List Int}{w U:Int}{s:Nat}{r c:Rat}(fW:Po.Fm W w)(fG:Po.Fm G U)(lG:G.length=s+1)(s1:1<=s)(r0:r≠0)(e:∀ x,Qp.E W w x=r*Qp.E G U x+c):W.length=s+1/\Qp.q W w s=r*Qp.q G U s:=by
 obtain ⟨S,d,fS,eS,lS⟩:=Ap.Pl'.const c;have ql:=Ap.uI (u:=r) fW fG fS (fun x=>by rw [e,eS]);have qs:Qp.q W w s=r*Qp.q G U s:=by
  rw [ql,Qp.tU (P:=S) (by omega)];grind
 refine ⟨?_,qs⟩;obtain ⟨p,fp,ep,_,lp⟩:=Ap.EW (p:=(G,U)) fG c r0;obtain ⟨rfl,rfl⟩:=Qp.tS fW fp fun x=>by rw [e,ep]
 have lp:p.1.length<=max 1 G.length:=lp;rcases ao s p.1.length with y | y
 ·omega
 ·rw [Qp.tU y] at qs;have g0:=Qp.t9 fG (by intro e;rw [e] at lG;simp at lG);rw [lG] at g0;rcases cw.mp qs.symm with z | z
  ·exact absurd z r0
  ·exact absurd z g0
def AgR (P:List Int)(B:Int)(k:Nat)(hs:List Pl):Prop:=(∀ h:Pl,h∈hs↔Ag P B k h.1 h.2)/\hs.Pairwise fun h h'=>ld h<ld h'
theorem yn {f:Pl->Rat}:∀ {hs ks:List Pl},(∀ h,h∈hs↔h∈ks)->hs.Pairwise (fun h h'=>f h<f h')->ks.Pairwise (fun h h'=>f h<f h')->hs=ks
 | [],[],_,_,_=>rfl
 | [],k::ks,h,_,_=>absurd ((h k).mpr ar) aP
 | h::hs,[],e,_,_=>absurd ((e h).mp ar) aP
 | h::hs,k::ks,e,p1,p2=>by
  obtain ⟨a1,a2⟩:=dP.mp p1;obtain ⟨b1,b2⟩:=dP.mp p2;have hk:h=k:=by
   rcases au.mp ((e h).mp ar) with z | z
   ·exact z
   ·rcases au.mp ((e k).mpr ar) with y | y
    ·exact y.symm
    ·have:=a1 k y;have:=b1 h z;grind
  subst hk;have n1:h ∉ hs:=fun z=>absurd (a1 h z) (Rat.lt_irrefl);have n2:h ∉ ks:=fun z=>absurd (b1 h z) (Rat.lt_irrefl);rw [yn (f:=f) (hs:=hs) (ks:=ks) (fun x=>?_) a2 b2];constructor
  ·intro z;rcases au.mp ((e x).mp (aw _ z)) with y | y
   ·exact absurd (y ▸ z) n1
   ·exact y
  ·intro z;rcases au.mp ((e x).mpr (aw _ z)) with y | y
   ·exact absurd (y ▸ z) n2
   ·exact y
theorem AgR.uniq {P:List Int}{B:Int}{k:Nat}{hs ks:List Pl}(h:AgR P B k hs)(h':AgR P B k ks):hs=ks:=yn (fun x=>(h.1 x).trans (h'.1 x).symm) h.2 h'.2
def Shp (s k:Nat):Prop:=(s=2/\k=2)\/(s=2/\k=3)\/(s=2/\k=4)\/(s=3/\k=2)\/(s=4/\k=2)
theorem IH {s k n:Nat}(h:s^k=n)(n2:2<=n)(n16:n<=16)(k2:2<=k)(k4:k<=4):Shp s k:=by
 have s4:s<=4:=by
  rcases ao 4 s with y | y
  ·have h1:5^2<=s^2:=ii y 2;have h2:s^2<=s^k:=bE (by omega) k2;omega
  ·exact y
 have:∀ s∈List.range 5,∀ k∈List.range 5,2<=k->2<=s^k->s^k<=16->(s=2/\k=2)\/(s=2/\k=3)\/(s=2/\k=4)\/(s=3/\k=2)\/(s=4/\k=2):=by decide +kernel
 exact this s (ff.mpr (by omega)) k (ff.mpr (by omega)) k2 (by omega) (by omega)
def nR (s m:Nat):Nat:=tB 600 600 600 m s
def bR (s m:Nat):Nat:=zB 600 600 m s
def bG (s m:Nat):Nat:=bU 600 m s
def nG (s m:Nat):Nat:=bG s m+gW 600 600 (m*s)*s
def nW (s m:Nat):Nat:=wT (nR s m) (bR s m) (nG s m) (bG s m) 600 600
def bW (s m:Nat):Nat:=wB (nR s m) (bR s m) (bG s m) 600
structure ShS (s k:Nat):Prop where
 s2:2<=s
 s4:s<=4
 k2:2<=k
 k4:k<=4
 m1:2<=s^(k-1)
 m15:s^(k-1)<=15
 mm:s^(k-1)*s=s^k
 sz:LM 600 600 600 (s^(k-1)*s)
 e1:1<=LP s k
 e15:LP s k<=15
 w1:wB (nR s (s^(k-1))) (bR s (s^(k-1))) (bG s (s^(k-1))) 600<=900000
 w2:wT (nR s (s^(k-1))) (bR s (s^(k-1))) (nG s (s^(k-1))) (bG s (s^(k-1))) 600 600<=1000000
 ag:∀ j,j<k->1*bW s (s^(k-1))+(aZ (nW s (s^(k-1))) (bW s (s^(k-1))) (s+1) j).2*(s+1)<=8900000/\nW s (s^(k-1))+((aZ (nW s (s^(k-1))) (bW s (s^(k-1))) (s+1) j).1+(aZ (nW s (s^(k-1))) (bW s (s^(k-1))) (s+1) j).2+10)*(s+1+1)<=90000000/\(s+1)*((s+1-1)^j+1)<=190/\(s+1-1)^j+1<=190
theorem Shp.s {s k:Nat}(h:Shp s k):ShS s k:=by
 rcases h with ⟨rfl,rfl⟩ | ⟨rfl,rfl⟩ | ⟨rfl,rfl⟩ | ⟨rfl,rfl⟩ | ⟨rfl,rfl⟩;all_goals exact ⟨by decide,by decide,by decide,by decide,by decide,by decide,by decide,by unfold LM;decide,by decide,by decide,by decide +kernel,by decide +kernel,by decide +kernel⟩
def i6:SpB:=.of 2 (α:=List Int×Int×Nat×Nat) (fun (P,B,n,k) ds=>ds=[pD P B,.int k]/\Pc.Pz 600 600 P B/\P.length=n+1/\2<=n/\n<=16/\2<=k/\k<=4) (fun (P,B,n,k) d=>∃ hs:List Pl,d = .lst (hs.map pq)/\AgR P B k hs/\∀ w∈hs,∃ s:Nat,s^k=n/\w.1.length=s+1/\Pc.Pz (nW s (s^(k-1))) (bW s (s^(k-1))) w.1 w.2)
def jt:TSd:=(iP [] (iT (i5 (iI 6)) [8] (gNm 8) (iQ (iR .Eq (iK jp (iH (iI 8) (iH (iI 1) iJ))) (iI 0))) (iI 8)))
def mP:TSd:=dSq (iO [] (gNm 6) (iT (i5 (iK qr (iH (iK m4 (iH (iI 0) iJ)) (iH (iK kv (iH (iI 2) (iH (iI 1) iJ))) iJ)))) [7] (gNm 7) i9 (iK jS (iH (iI 4) (iH (iI 5) (iH (iI 7) iJ))))))
 jt
def mQ:TSd:=dSq (dIf [] (iQ (iR .Eq (iI 3) (dC (.str "barred"))))
 (iP [] (iY iJ))
 iW)
 mP
def mR:TSd:=dSq (iO [] (gTp [3,4,5]) (iK nq (iH (iI 0) (iH (iI 2) iJ))))
 mQ
def mS:TSd:=dSq (dIf [] (iQ (iR .NotEq (iK iM (iH (iI 2) (iH (iI 1) iJ))) (iK i8 (iH (iI 0) iJ))))
 (iP [] (iY iJ))
 iW)
 mR
def om:TSd:=dSq (iO [] (gNm 2) (iK jj (iH (iK i8 (iH (iI 0) iJ)) (iH (iI 1) iJ))))
 mS
open Classical in
theorem Hj {P:List Int}{B:Int}{k s:Nat}{ws:List Pl}{d3 d4 d5:D}{o7 o8:SD}{Q:D->Prop}(fP:Po.Fm P B)(hS:ShS s k)(lw:ws.length<=2)(hw:∀ w∈ws,Pc.Pz (nW s (s^(k-1))) (bW s (s^(k-1))) w.1 w.2/\w.1.length=s+1)(q:Q (.lst ((ws.filter fun w=>decide (Ag P B k w.1 w.2)).map pq))) :
  jt.run (tf Q) [.val (pD P B),.val (.int (k:Nat)),.val (.int (s:Nat)),.val d3,.val d4,.val d5,.val (.lst (ws.map pq)),o7,o8]:=by
 have h1:=hS.s2;have h2:=hS.s4;have h3:=hS.k4;refine ⟨(congrArg (· <= sizeLine) (aa _)).mpr (vf (by omega)),fun i ys=>ys=((ws.take i).filter fun w=>decide (Ag P B k w.1 w.2)).map pq,rfl,fun i d ys hd _ hy=>?_,fun ys _ hy=>?_⟩
 ·rw [aO] at hd;obtain ⟨w,hi,rfl⟩:=ab.mp hd;obtain ⟨zw,lw'⟩:=hw w (aM hi);refine ⟨rfl,(w.1,w.2,s,k,_,_),⟨rfl,zw,lw',by show 1<=s;omega,by show s<=100;omega,by show k<=20;omega,hS.ag⟩,?_⟩;rintro _ ⟨R,C,rfl,it⟩;have it:Pc.It w.1 w.2 k R C:=it;refine ⟨xB _ _,xB _ _,ED _ _,fun kk hk=>?_⟩;have hk:=hk.trans (pD_iff (A:=R) (A':=P) (B:=C) (B':=B));have key:Ag P B k w.1 w.2↔R=P/\C=B:=by
   constructor
   ·rintro ⟨_,e⟩;exact Qp.tS it.fm fP fun x=>by rw [It.e zw.fm.pos it,e]
   ·rintro ⟨rfl,rfl⟩;exact ⟨zw.fm,fun x=>(It.e zw.fm.pos it x).symm⟩
  have T0:((ws.take (i+1)).filter fun w=>decide (Ag P B k w.1 w.2)).map pq=((ws.take i).filter fun w=>decide (Ag P B k w.1 w.2)).map pq++(([w]:List Pl).filter fun w=>decide (Ag P B k w.1 w.2)).map pq:=by
   rw [fJ,hi,List.filter_append,bD];rfl
  subst hy;cases kk with
  | true =>
   have a:=key.mpr (hk.mp rfl);rw [List.filter_cons_of_pos (by simpa using a)] at T0;exact T0.symm
  | false =>
   have a:¬ Ag P B k w.1 w.2:=fun z=>by have:false=true:=hk.mpr (key.mp z);cases this
   rw [List.filter_cons_of_neg (by simpa using a)] at T0;exact (T0.trans (cL _)).symm
 ·rw [aa,bM] at hy;subst hy;exact q
end Dp
namespace Dp
open PySem L2 Ch
theorem t6 {s t k:Nat}(k1:1<=k)(h:s^k=t^k):s=t:=by
 rcases iD s t with y | y | y
 ·have:=ig y (show k≠0 by omega);omega
 ·exact y
 ·have:=ig y (show k≠0 by omega);omega
theorem Gz {P:List Int}{B:Int}{n k s:Nat}(fP:Po.Fm P B)(lP:P.length=n+1)(n2:2<=n)(k2:2<=k)(h:Rt.Is (n:Int) k (s:Int))(c:(s:Int)^k≠(n:Int))(H:Pl):¬ Ag P B k H.1 H.2:=fun a=>by
 obtain ⟨t,z⟩:=vK fP lP (by omega) a;rcases z with ⟨lt,et⟩ | z
 ·have h1:=h.most (t:Int) (by omega) (by rw [← cP,et];exact dE _);have h2:=h.le;rw [← cP] at h2 c;have h3:t^k<=s^k:=ii (by omega) k;apply c;omega
 ·omega
theorem Hi {P G R:List Int}{B U C t u:Int}{n k s:Nat}{fs:List (Int×Int)}{ws:List Pl}(fP:Po.Fm P B)(hS:ShS s k)(en:s^k=n)(lP:P.length=n+1)(cG:Cn P (s^(k-1)) s G U)(mon:G.getD s 0=U)(fR:Po.Fm R C)(eR:∀ x,Qp.E P B x=Qp.E R C (Qp.E G U x))(u0:0<u)(gc:Int.gcd t u=1)(el:Qp.q P B n=(t:Rat) / (u:Rat))(hr:Rt.RtV t u (LP s k) fs)(ll:ws.length=fs.length)
  (hw:∀ (i:Nat) (w:Pl),ws[i]? = some w->∃ f:Int×Int,fs[i]? = some f/\Po.Fm w.1 w.2/\∀ x,Qp.E w.1 w.2 x=((f.1:Rat) / (f.2:Rat))*Qp.E G U x+wl R C G U (s^(k-1)) s ((f.1:Rat) / (f.2:Rat))):(∀ w∈ws,w.1.length=s+1)/\(∀ h:Pl,Ag P B k h.1 h.2->h∈ws)/\ws.Pairwise fun h h'=>ld h<ld h':=by
 have s2:=hS.s2;have k2:=hS.k2;have e1:=hS.e1;obtain ⟨fG,lG,cG'⟩:=cG;have U0:=Qp.sQ fG.pos;have qG:Qp.q G U s=1:=by
  unfold Qp.q;rw [mon];grind
 have lead0:Qp.q P B n≠0:=by
  have:=Qp.t9 fP (by intro e;rw [e] at lP;simp at lP);rwa [lP] at this
 have fne:∀ f∈fs,((f.1:Rat) / (f.2:Rat))≠0:=fun f hf z=>by
  have:=(Ah hr e1 u0 gc hf).2.2;rw [z,← el] at this;obtain ⟨j,hj⟩:∃ j,LP s k=j+1:=⟨LP s k-1,by omega⟩;rw [hj,aY,Rat.mul_zero] at this;exact lead0 this.symm
 have each:∀ (i:Nat) (w:Pl),ws[i]? = some w->∃ f:Int×Int,fs[i]? = some f/\w.1.length=s+1/\ld w=(f.1:Rat) / (f.2:Rat):=fun i w h=>by
  obtain ⟨f,hf,fw,ew⟩:=hw i w h;obtain ⟨a,b⟩:=GK fw fG lG (by omega) (fne f (aM hf)) ew;refine ⟨f,hf,a,?_⟩;unfold ld;rw [a,show s+1-1=s from rfl,b,qG,g7]
 refine ⟨fun w h=>?_,fun h a=>?_,?_⟩
 ·obtain ⟨i,hi⟩:=bP.mp h;exact (each i w hi).choose_spec.2.1
 ·obtain ⟨H,V⟩:=h;have a:Ag P B k H V:=a;obtain ⟨t',z⟩:=vK fP lP (by have:=bA (n:=k) (show 0<s by omega);omega) a;rcases z with ⟨lt,et⟩ | z
  ·have ts:t'=s:=t6 (k:=k) (by omega) (by rw [et,en]);subst ts;obtain ⟨s',rfl⟩:∃ s',t'=s'+2:=⟨t'-2,by omega⟩;obtain ⟨k',rfl⟩:∃ k',k=k'+2:=⟨k-2,by omega⟩;have lead:=vc fP lt a;rw [en,el] at lead;have nd:(((Qp.q H V (s'+2)).num:Int):Rat) / (((Qp.q H V (s'+2)).den:Int):Rat)=Qp.q H V (s'+2):=by
    have:=fE (Qp.q H V (s'+2));rw [fZ] at this;exact this
   have mem:=xx hr e1 u0 gc (x:=(Qp.q H V (s'+2)).num) (y:=((Qp.q H V (s'+2)).den:Int)) (by have:=(Qp.q H V (s'+2)).den_pos;omega) (by rw [Int.gcd];exact (Qp.q H V (s'+2)).reduced) (by
    rw [nd,lead])
   obtain ⟨i,hi⟩:=bP.mp mem;have il:i<ws.length:=by rw [ll];exact (aj.mp hi).1
   obtain ⟨f,hf,fw,ew⟩:=hw i _ (aq il);rw [hi] at hf;cases hf;simp only [nd] at ew;have is:=(AT (R:=R) (C:=C) (en:=rfl) fP (by have:=hS.mm;rw [show k'+2-1=k'+1 from rfl] at this;rw [this,en];exact lP) lt a ⟨fG,lG,cG'⟩).2 fR eR;obtain ⟨x1,x2⟩:=Qp.tS a.1 fw fun x=>by rw [is,ew];rfl
   have:(H,V)=ws[i]:=Prod.ext x1 x2;rw [this];exact eQ il
  ·omega
 ·refine dm.mpr fun i j hi hj ij=>?_;obtain ⟨f,hf,_,e⟩:=each i _ (aq hi);obtain ⟨g,hg,_,e'⟩:=each j _ (aq hj);rw [e,e'];have r:=dm.mp (F3 hr e1 u0) i j (by omega) (by omega) ij;rw [(aj.mp hf).2,(aj.mp hg).2] at r;exact r
open Classical in
theorem lV:Does 9 om i6:=by
 rintro ds Q hn ⟨⟨P,B,n,k⟩,⟨rfl,z,lP,n2,n16,k2,k4⟩,q⟩;dsimp only at z lP n2 n16 k2 k4 q;refine ⟨rfl,(P,B),rfl,?_⟩;rintro _ rfl;refine ⟨rfl,((n:Int),k),⟨?_,by show (0:Int)<=n;omega,(GI (by omega) (by omega)).mono (by decide),by show 1<=k;omega,by show k<=15;omega⟩,?_⟩
 ·show [D.int ((P.length:Int)-1),.int k]=[D.int (n:Int),.int k];rw [lP,show ((n+1:Nat):Int)-1=(n:Int) by omega]
 rintro _ ⟨r,rfl,hr⟩;have hr:Rt.Is (n:Int) k r:=hr;obtain ⟨s,rfl⟩:∃ s:Nat,r=(s:Int):=⟨r.toNat,by have:=hr.pos;omega⟩;have s16:s<=16:=by
  have h1:=hr.self (by omega) (by omega);omega
 refine ⟨rfl,((s:Int),k,7),⟨rfl,by unfold Lt2;omega,by show k<=200;omega,by show (7+1)*(k+1)<=400000;omega⟩,?_⟩;rintro _ rfl;refine ⟨rfl,(P,B),rfl,?_⟩;rintro _ rfl;have eln:(P.length:Int)-1=(n:Int):=by omega
 refine LK (p:=(s:Int)^k=(P.length:Int)-1) (fun c=>?_) (fun c=>?_)
 ·rw [eln] at c;exact ⟨aC _,q _ ⟨[],rfl,⟨fun h=>⟨fun x=>absurd x aP,fun a=>absurd a (Gz z.fm lP n2 k2 hr c h)⟩,.nil⟩,fun w h=>absurd h aP⟩⟩
 rw [eln] at c;have en:s^k=n:=by
  rw [← cP] at c;omega
 have hS:=(IH en n2 n16 k2 k4).s;have s2:=hS.s2;have s4:=hS.s4;have mm:=hS.mm;have hm:=hS.m1;have ln:P.length=s^(k-1)*s+1:=by rw [mm,en];exact lP
 refine ⟨rfl,(P,B,s^(k-1),s,600,600,600),⟨rfl,z,ln,by show 1<=s^(k-1);omega,by show 1<=s;omega,by rw [mm,en];exact n16,hS.m15,z.tops _,hS.sz⟩,?_⟩;rintro _ ⟨G,U,Ps,ap,wG,lU,h0⟩;have ap':=ap;obtain ⟨cG,_,_,hz,ed⟩:=ap';have cG':=cG;obtain ⟨fG,lG,cG''⟩:=cG';obtain ⟨mon,G0⟩:=v6 cG'' (show 1<=s by omega);have mon:G.getD s 0=U:=mon;rcases h0 with ⟨i,p,rfl,hi,hp,hf⟩ | ⟨R,C,rfl,zR,one,lR,eR⟩
 ·refine ⟨rfl,?_⟩;refine ⟨aC _,q _ ⟨[],rfl,⟨fun h=>⟨fun x=>absurd x aP,fun a=>?_⟩,.nil⟩,fun w h=>absurd h aP⟩⟩;exfalso;obtain ⟨H,V⟩:=h;have a:Ag P B k H V:=a;obtain ⟨t',zz⟩:=vK z.fm lP (by omega) a;rcases zz with ⟨lt,et⟩ | zz
  ·have ts:t'=s:=t6 (k:=k) (by omega) (by rw [et,en]);subst ts;obtain ⟨s',rfl⟩:∃ s',t'=s'+2:=⟨t'-2,by omega⟩;obtain ⟨k',rfl⟩:∃ k',k=k'+2:=⟨k-2,by omega⟩;have o:=(AT (R:=[]) (C:=1) (en:=rfl) z.fm ln lt a cG).1;exact Gx fG lG (by omega) hz ed hi hp o
  ·omega
 ·have eR':∀ x,Qp.E P B x=Qp.E R C (Qp.E G U x):=fun x=>by rw [ed,eR]
  have lR':=Co (s:=s) (by omega) z.fm ln fG lG zR.fm eR';refine ⟨rfl,?_⟩;refine ⟨rfl,(P,B,n,600,600),⟨rfl,lP,z,by decide⟩,?_⟩;rintro _ ⟨t,u,rfl,u0,gc,lt,lu,el⟩;refine ⟨rfl,(s,k),⟨rfl,by show s<=100;omega,by show k<=20;omega⟩,?_⟩;rintro _ rfl;refine ⟨rfl,(t,u,LP s k),⟨rfl,u0,gc,lt.mono (by decide),lu.mono (by decide),hS.e1,hS.e15⟩,?_⟩;rintro _ ⟨fs,rfl,rv⟩;have rv:Rt.RtV t u (LP s k) fs:=rv;have lf:=rv.len;have zG:Pc.Pz (nG s (s^(k-1))) (bG s (s^(k-1))) G U:=wG.pz fG lG lU;suffices h4:compD (FS fs) [.val (pD P B),.val (.int k),.val (.int s),.val (.str "made"),.val (pD R C),.val (pD G U),.no,.no,.no] (gNm 7) i9 (iK jS (iH (iI 4) (iH (iI 5) (iH (iI 7) iJ)))) (fun d=>jt.run (tf Q) [.val (pD P B),.val (.int k),.val (.int s),.val (.str "made"),.val (pD R C),.val (pD G U),.val d,.no,.no]) from h4;refine AN (fun i y=>∃ (f:Int×Int) (w:Pl),fs[i]? = some f/\y=pq w/\Pc.Pz (nW s (s^(k-1))) (bW s (s^(k-1))) w.1 w.2/\∀ x,Qp.E w.1 w.2 x=((f.1:Rat) / (f.2:Rat))*Qp.E G U x+wl R C G U (s^(k-1)) s ((f.1:Rat) / (f.2:Rat))) (show (FS fs).length<=16777216 by rw [aa];omega) (fun i d hd=>?_) (fun ys ly hy=>?_)
  ·obtain ⟨f,hf,rfl⟩:=zO hd;obtain ⟨f0,fg,fe⟩:=Ah rv hS.e1 u0 gc (aM hf);have sm:=rv.root f (aM hf);refine ⟨rfl,((R,C,G,U),fD f.1 f.2,(f.1:Rat) / (f.2:Rat),(s^(k-1),s),nR s (s^(k-1)),bR s (s^(k-1)),nG s (s^(k-1)),bG s (s^(k-1)),600,600),⟨rfl,⟨f.1,f.2,rfl,f0,fg,?_,?_,rfl⟩,zR,lR',by show 1<=s^(k-1);omega,by have:=hS.m15;show s^(k-1)<=100;omega,zG,lG,by show 1<=s;omega,by show s<=100;omega,hS.w1,hS.w2⟩,?_⟩
   ·refine lt.le ?_;rw [← sm.1,cE];exact Nat.le_self_pow (by have:=hS.e1;omega) _
   ·refine lu.le ?_;rw [← sm.2.1,cE];exact Nat.le_self_pow (by have:=hS.e1;omega) _
   ·rintro _ ⟨W,w,rfl,zW,eW⟩;exact ⟨f,(W,w),hf,rfl,zW,eW⟩
  ·obtain ⟨ws,rfl,hw⟩:=Br (Φ:=fun i w=>∃ f:Int×Int,fs[i]? = some f/\Pc.Pz (nW s (s^(k-1))) (bW s (s^(k-1))) w.1 w.2/\∀ x,Qp.E w.1 w.2 x=((f.1:Rat) / (f.2:Rat))*Qp.E G U x+wl R C G U (s^(k-1)) s ((f.1:Rat) / (f.2:Rat))) fun i y h=>by
    obtain ⟨f,w,h1,h2,h3,h4⟩:=hy i y h;exact ⟨w,h2,f,h1,h3,h4⟩
   rw [aa,aa] at ly;obtain ⟨m1,m2,m3⟩:=Hi z.fm hS en lP cG mon zR.fm eR' u0 gc el rv ly fun i w h=>by
    obtain ⟨f,h1,h2,h3⟩:=hw i w h;exact ⟨f,h1,h2.fm,h3⟩
   refine Hj z.fm hS (by omega) (fun w h=>?_) (q _ ⟨_,rfl,⟨fun h=>?_,m3.filter _⟩,fun w h=>?_⟩)
   ·obtain ⟨i,hi⟩:=bP.mp h;obtain ⟨f,h1,h2,h3⟩:=hw i w hi;exact ⟨h2,m1 w h⟩
   ·rw [cr];exact ⟨fun x=>of_decide_eq_true x.2,fun a=>⟨m2 h a,decide_eq_true a⟩⟩
   ·have h:=(cr.mp h).1;obtain ⟨i,hi⟩:=bP.mp h;obtain ⟨f,h1,h2,h3⟩:=hw i w hi;exact ⟨s,en,m1 w h,h2⟩
end Dp
namespace Dp
open PySem L2 Ch Qp
theorem wO (r:Rat):((r.num:Int):Rat) / ((r.den:Int):Rat)=r:=by
 have:=fE r;rw [fZ] at this;exact this
theorem yW {x y:Rat}{e:Nat}(e1:1<=e)(h:x^e=y^e):x=y\/(x = -y/\e%2=0):=by
 have d0:0<((x^e).den:Int):=by have:=(x^e).den_pos;omega
 have gc:Int.gcd (x^e).num ((x^e).den:Int)=1:=by rw [Int.gcd];exact (x^e).reduced
 obtain ⟨o,ho⟩:=Rt.has (n:=(((x^e).num.natAbs:Nat):Int)) e1 (by omega);obtain ⟨u,hu⟩:=Rt.has (n:=((x^e).den:Int)) e1 (by omega);obtain ⟨fs,hf⟩:∃ fs,Rt.RtV (x^e).num ((x^e).den:Int) e fs:=⟨_,o,u,ho,hu,rfl⟩;have mx:=xx hf e1 d0 gc (x:=x.num) (y:=(x.den:Int)) (by have:=x.den_pos;omega) (by rw [Int.gcd];exact x.reduced) (by rw [wO,wO]);have my:=xx hf e1 d0 gc (x:=y.num) (y:=(y.den:Int)) (by have:=y.den_pos;omega) (by rw [Int.gcd];exact y.reduced) (by rw [wO,wO,h]);obtain ⟨o',u',_,_,rfl⟩:=hf;have fin:∀ p:Int×Int,(x.num,(x.den:Int))=p->(y.num,(y.den:Int))=p->x=y:=fun p h1 h2=>by
  rw [← wO x,← wO y];have:=h1.trans h2.symm;injection this with a b;rw [a,b]
 split at mx
 ·cases mx
 rename_i c;rw [if_neg c] at my;split at mx
 ·rename_i ct;rw [if_pos ct] at my;exact .inl (fin _ (av.mp mx) (av.mp my))
 rename_i ct;rw [if_neg ct] at my;split at mx
 ·rename_i c2;rw [if_pos c2] at my;have neg:∀ a b:Rat,((a.num,(a.den:Int))=(-o',u'))->((b.num,(b.den:Int))=(o',u'))->a = -b:=fun a b h1 h2=>by
   rw [← wO a,← wO b];injection h1 with a1 a2;injection h2 with b1 b2;rw [a1,a2,b1,b2,gB];grind
  rcases au.mp mx with z | z
  ·rcases au.mp my with w | w
   ·exact .inl (fin _ z w)
   ·exact .inr ⟨neg _ _ z (av.mp w),c2.1⟩
  ·rcases au.mp my with w | w
   ·refine .inr ⟨?_,c2.1⟩;have:=neg _ _ w (av.mp z);rw [this];grind
   ·exact .inl (fin _ (av.mp z) (av.mp w))
 ·rename_i c2;rw [if_neg c2] at my;exact .inl (fin _ (av.mp mx) (av.mp my))
theorem J3 {P H H':List Int}{B V V':Int}{k s:Nat}(fP:Po.Fm P B)(lH:H.length=s+3)(lH':H'.length=s+3)(h:Ag P B (k+2) H V)(h':Ag P B (k+2) H' V'):(q H' V' (s+2)=q H V (s+2)/\H'=H/\V'=V)\/((LP (s+2) (k+2))%2=0/\∃ c,∀ x,E H' V' x=c-E H V x):=by
 have l1:P.length=(s+2)^(k+2)+1:=by
  obtain ⟨W,w,fW,lW,eW⟩:=yr h.1 (s:=s+2) lH (by omega) (k+2);obtain ⟨rfl,_⟩:=tS fP fW fun x=>by rw [← h.2,eW]
  exact lW
 obtain ⟨n,hn⟩:∃ n,n=(s+2)^(k+1):=⟨_,rfl⟩;have l2:P.length=n*(s+2)+1:=by rw [l1,hn,← cZ]
 have n1:1<=n:=by rw [hn];exact bA (by omega)
 obtain ⟨G,U,cG⟩:=Il (P:=P) (k:=n) (s:=s+2) n1 (by omega) (uF fP l2);obtain ⟨R,C,fR,eR⟩:=(AT (R:=[]) (C:=1) hn fP l2 lH h cG).1;have i1:=(AT (R:=R) (C:=C) hn fP l2 lH h cG).2 fR eR;have i2:=(AT (R:=R) (C:=C) hn fP l2 lH' h' cG).2 fR eR;have a1:=vc fP lH h;have a2:=vc fP lH' h';have e1:1<=LP (s+2) (k+2):=by
  show 1<=LP (s+2) (k+1)+(s+2)^(k+1);have:=bA (n:=k+1) (show 0<s+2 by omega);omega
 rcases yW (x:=q H' V' (s+2)) (y:=q H V (s+2)) e1 (by rw [← a1,← a2]) with z | ⟨z,ev⟩
 ·exact .inl ⟨z,tS h'.1 h.1 fun x=>by rw [i2,i1,z]⟩
 ·refine .inr ⟨ev,wl R C G U n (s+2) (q H' V' (s+2))+wl R C G U n (s+2) (q H V (s+2)),fun x=>?_⟩;rw [i2,i1,z];grind
end Dp
namespace Dp
open PySem L2 Ch
theorem DW {L S O:List Int}{v d o:Int}{nl vl n b:Nat}(h:Pc.Of L v S d O o)(len:L.length=2)(zL:Pc.Pz nl vl L v)(zS:Pc.Pz n b S d):Pc.Pz (nl+max n b+1) (vl+b) O o:=by
 have d0:=zS.fm.pos;refine Pc.Pz.of (c:=v*d) (f:=fun k=>L.getD 0 0*Pc.d0 k*d+L.getD 1 0*S.getD k 0) h.1 (az zL.fm.pos d0) (fun k=>?_) (fun k=>?_) (zL.bot.mul zS.bot)
 ·have e:=h.2 k;have e1:Pc.cp (Cv.fn S) 1 k=S.getD k 0:=Pc.xP (Cv.fn S) k;rw [len] at e;have e:O.getD k 0*(v*d^2)=((0+L.getD 0 0*Pc.d0 k)*d+L.getD 1 0*Pc.cp (Cv.fn S) 1 k)*d*o:=e;rw [e1] at e;refine aJ (aA d0) ?_;rw [show O.getD k 0*(v*d)*d=O.getD k 0*(v*d^2) by grind,e];grind
 ·have l0:Lt2 nl (L.getD 0 0*Pc.d0 k):=by
   unfold Pc.d0;split
   ·rw [bh];exact zL.tops 0
   ·rw [bw];exact wC _
  exact ((l0.mul zS.bot).mono (m:=nl+max n b) (by omega)).add (((zL.tops 1).mul (zS.tops k)).mono (by omega))
def aW (l:Nat):Nat->Nat
 | 0=>2
 | j+1=>2+(aW l j+1+10)*l+1
theorem Aw {H:List Int}(z:Pc.Pz 2 1 H 1)(l5:H.length<=5){s:Nat}(lH:H.length=s+1)(s1:1<=s):∀ {j:Nat} {R:List Int} {C:Int},s^(j+1)<=16->Pc.It H 1 (j+1) R C->Pc.Pz (aW H.length j) 1 R C
 | 0,R,C,_,⟨_,_,⟨rfl,rfl⟩,o⟩=>by
  obtain ⟨rfl,rfl⟩:=o.right z.fm;exact z
 | j+1,R,C,hs,⟨S,d,it,o⟩=>by
  have hs':s^(j+1)<=16:=aH (bE s1 (d9 _)) hs;have zS:=Aw z l5 lH s1 hs' it;have lS:=It.len z.fm lH s1 it;cases JX zS;have sz:=o.size z zS (by rw [lS];exact aH (cb l5 (show s^(j+1)+1<=17 by omega)) (by decide));refine ⟨o.1,sz.tops,?_⟩;have:C∣1*1^H.length:=BH o.1 o.2;rw [bV,cY] at this;have:=gN (by decide) this;have:=o.1.pos;show C.natAbs<2;omega
def aV:Nat->Nat
 | 0=>2
 | j+1=>2*aV j+6
theorem E1 {H:List Int}(z:Pc.Pz 2 1 H 1)(lH:H.length=3)(h1:H.getD 1 0=0)(h2:H.getD 2 0=1):∀ {j:Nat} {R:List Int} {C:Int},2^(j+1)<=16->Pc.It H 1 (j+1) R C->Pc.Pz (aV j) 1 R C
 | 0,R,C,_,⟨_,_,⟨rfl,rfl⟩,o⟩=>by
  obtain ⟨rfl,rfl⟩:=o.right z.fm;exact z
 | j+1,R,C,hs,⟨S,d,it,o⟩=>by
  have hs':2^(j+1)<=16:=aH (bE (by decide) (d9 _)) hs;have zS:=E1 z lH h1 h2 hs' it;have lR:R.length=2^(j+2)+1:=It.len (k:=j+2) (s:=2) z.fm lH (by decide) ⟨S,d,it,o⟩;cases JX zS;have c1:C=1:=by
   have:C∣1*1^H.length:=BH o.1 o.2;rw [bV,cY] at this;have:=gN (by decide) this;have:=o.1.pos;omega
  subst c1;refine ⟨o.1,fun k=>?_,by unfold Lt2;decide⟩;rcases ao k 31 with y | y
  ·have e:=o.2 k;rw [lH,cY,bh,bh,bh] at e;have e1:∀ i,Pc.cp (Cv.fn S) 1 i=S.getD i 0:=fun i=>Pc.xP (Cv.fn S) i;have e:R.getD k 0=(((0+H.getD 0 0*Pc.d0 k)*1+H.getD 1 0*Pc.cp (Cv.fn S) 1 k)*1+H.getD 2 0*Pc.cp (Cv.fn S) 2 k)*1:=e;have l2:Lt2 (aV j+aV j+5) (Pc.cp (Cv.fn S) 2 k):=Cv.CP (f:=Pc.cp (Cv.fn S) 1) (b:=5) (fun i=>by rw [e1];exact zS.tops i) zS.tops (by omega);have l0:Lt2 2 (H.getD 0 0*Pc.d0 k):=by
    unfold Pc.d0;split
    ·rw [bh];exact z.tops 0
    ·rw [bw];exact wC _
   rw [e,h1,h2,show (((0+H.getD 0 0*Pc.d0 k)*1+0*Pc.cp (Cv.fn S) 1 k)*1+1*Pc.cp (Cv.fn S) 2 k)*1=H.getD 0 0*Pc.d0 k+Pc.cp (Cv.fn S) 2 k by grind];exact ((l0.mono (m:=aV j+aV j+5) (by omega)).add l2).mono (by show _<=2*aV j+6;omega)
  ·have:R.length<=17:=by rw [lR];exact Nat.succ_le_succ hs
   rw [sS (by omega)];exact wC _
def LQ (H:List Int)(V:Int)(s k:Nat):Prop:=Shp s k/\Pc.Pz 275 45 H V/\H.length=s+1/\∀ R C,Pc.It H V k R C->Pc.Pz 133 133 R C
def nv:SpB:=.of 1 (α:=Unit) (fun _ ds=>ds=[.fl]) (fun _ d=>∃ H V s k,d = .tup [pD H V,.int (k:Nat)]/\LQ H V s k/\Pc.Pz 114 25 H V)
def qy:TSd:=(iP [] (iZ (iH (iI 3) (iH (iI 2) iJ))))
def mn:TSd:=dSq (dIf [] (jz (jZ (iK ku (iH (iK kX (iH (iI 3) (iH (iI 2) iJ))) iJ))))
 (iO [] (gNm 3) (iK iS (iH (iL .Add (iL .Add (iY (iH (iL .Add (dC (.int 1)) (iK iN (iH (iI 0) (iH (dC (.int 3)) iJ)))) iJ)) (iL .Mult (iY (iH (dC (.int 0)) iJ)) (iL .Sub (iI 1) (dC (.int 1))))) (iY (iH (dC (.int 1)) iJ))) (iH (dC (.int 1)) iJ))))
 iW)
 qy
def kb:TSd:=dSq (dIf [] (iQ (iR .Eq (iK iN (iH (iI 0) (iH (dC (.int 4)) iJ))) (dC (.int 0))))
 (dSq (iO [] (gNm 3) (iK iS (iH (iT (jg (dIx (iI 3) (dC (.int 0)))) [4,5] (gTp [4,5]) i9 (iL .Mult (iI 5) (dB bInt bInt.mono (iH (iR .Eq (iL .Mod (iL .Sub (iI 1) (iI 4)) (dC (.int 2))) (dC (.int 0))) iJ)))) (iH (dIx (iI 3) (dC (.int 1))) iJ))))
 (dSq (iO [] (gNm 6) (iK jr (iH (iZ (iH (dC (.int 1)) (iH (dC (.int 1)) iJ))) (iH (iK jc (iH (iI 0) (iH (dC (.int 3)) iJ))) iJ))))
 (iO [] (gNm 3) (iK ke (iH (iK jy (iH (iI 6) iJ)) (iH (iK ke (iH (iI 3) (iH (iI 6) iJ))) iJ))))))
 iW)
 mn
def mo:TSd:=dSq (iO [] (gNm 3) (iK je (iH (iI 0) (iH (iI 1) (iH (dIx (iY (iH (dC (.int 3)) (iH (dC (.int 9)) (iH (dC (.int 99)) iJ)))) (iK iN (iH (iI 0) (iH (dC (.int 3)) iJ)))) iJ)))))
 kb
def rK:TSd:=dSq (iO [] (gTp [1,2]) (dIx (iY (iH (iZ (iH (dC (.int 2)) (iH (dC (.int 2)) iJ))) (iH (iZ (iH (dC (.int 2)) (iH (dC (.int 3)) iJ))) (iH (iZ (iH (dC (.int 2)) (iH (dC (.int 4)) iJ))) (iH (iZ (iH (dC (.int 3)) (iH (dC (.int 2)) iJ))) (iH (iZ (iH (dC (.int 3)) (iH (dC (.int 2)) iJ))) (iH (iZ (iH (dC (.int 4)) (iH (dC (.int 2)) iJ))) iJ))))))) (iK iN (iH (iI 0) (iH (dC (.int 6)) iJ)))))
 mo
theorem KM {a b c d e f:D}{i:Int}(h0:0<=i)(h1:i<6){Q:D->Prop}(qa:Q a)(qb:Q b)(qc:Q c)(qd:Q d)(qe:Q e)(qf:Q f):itD [a,b,c,d,e,f] i Q:=by
 rcases (by omega:i=0\/i=1\/i=2\/i=3\/i=4\/i=5) with rfl | rfl | rfl | rfl | rfl | rfl
 ·exact qa
 ·exact qb
 ·exact qc
 ·exact qd
 ·exact qe
 ·exact qf
structure AgL (s k:Nat):Prop where
 s2:2<=s
 s4:s<=4
 k2:2<=k
 k4:k<=4
 n16:s^k<=16
 n2:2<=s^k
 ag:∀ j,j<k->2*45+(aZ 275 45 (s+1) j).2*(s+1)<=8900000/\275+((aZ 275 45 (s+1) j).1+(aZ 275 45 (s+1) j).2+10)*(s+1+1)<=400000/\(s+1)*((s+1-1)^j+1)<=190/\(s+1-1)^j+1<=190
 sm:aW (s+1) (k-1)<=133\/(s=2/\aV (k-1)<=133)
theorem Shp.l {s k:Nat}(h:Shp s k):AgL s k:=by
 rcases h with ⟨rfl,rfl⟩ | ⟨rfl,rfl⟩ | ⟨rfl,rfl⟩ | ⟨rfl,rfl⟩ | ⟨rfl,rfl⟩;all_goals exact ⟨by decide,by decide,by decide,by decide,by decide,by decide,by decide +kernel,by decide⟩
theorem Cq {H:List Int}{V:Int}{s k:Nat}{o4 o5 o6:SD}{Q:D->Prop}(hs:Shp s k)(z5:Pc.Pz 114 25 H V)(lH:H.length=s+1)(q:∀ d,(∃ H V s k,d = .tup [pD H V,.int (k:Nat)]/\LQ H V s k/\Pc.Pz 114 25 H V)->Q d):mn.run (tf Q) [.val .fl,.val (.int (s:Nat)),.val (.int (k:Nat)),.val (pD H V),o4,o5,o6]:=by
 have z:Pc.Pz 275 45 H V:=z5.mono (by decide) (by decide);obtain ⟨s2,s4,k2,k4,n16,_,ag,sm⟩:=hs.l;refine ⟨rfl,(H,V,s,k,275,45),⟨rfl,z,lH,by show 1<=s;omega,by show s<=100;omega,by show k<=20;omega,ag⟩,?_⟩;rintro _ ⟨R,C,rfl,it⟩;have it:Pc.It H V k R C:=it;have lR:=It.len z.fm lH (by omega) it;refine ⟨rfl,(R,C),⟨rfl,it.fm.pos,by show R.length<=1000;omega⟩,?_⟩;rintro _ ⟨c,rfl,hc⟩;cases c with
 | true =>
  obtain ⟨h1,h2⟩:=hc rfl;refine ⟨ur,q _ ⟨H,V,s,k,rfl,⟨hs,z,lH,fun R' C' it'=>?_⟩,z5⟩⟩;obtain ⟨rfl,rfl⟩:=it.uniq z.fm.pos it';exact ⟨it.fm,h2,h1⟩
 | false =>
  refine ⟨rfl,3,⟨rfl,by decide,DK (by decide)⟩,?_⟩;rintro _ ⟨i,rfl,i0,i3⟩;have e1:((s:Int)-1)=((s-1:Nat):Int):=by omega
  refine ⟨Ba,Ba,⟨by omega,by omega,?_,?_⟩⟩
  ·rw [e1];show 1*(s-1)<=_;have:=vf (n:=s-1) (by omega);omega
  have hl:(List.replicate ((s:Int)-1).toNat [D.int 0]).flatten=(List.replicate (s-1) (0:Int)).map D.int:=by rw [e1,aS,vT]
  have lz:(1+s-1+1)<=sizeLine:=vf (by omega);rw [hl];obtain ⟨ts,hts⟩:∃ ts,ts=[1+i]++List.replicate (s-1) (0:Int)++[1]:=⟨_,rfl⟩;have lt:ts.length=s+1:=by rw [hts,aD,aD,bv];show 1+(s-1)+1=s+1;omega
  refine ⟨by rw [aa,bv];show 1+(s-1)<=_;omega,Ba,by rw [aD,aa,bv];show 1+(s-1)+1<=_;omega,rfl,(ts,1),⟨.inl ?_,by show (0:Int)<1;decide,DK (m:=1) (by decide),by show ts.length<=1000;omega⟩,?_⟩
  ·rw [hts,bD,bD];rfl
  rintro _ ⟨P,B,rfl,fm,hw,hle⟩;have hw:∀ j,P.getD j 0*1=ts.getD j 0*B:=hw;have hle:P.length<=ts.length:=hle;have tl:∀ j,Lt2 2 (ts.getD j 0):=fun j=>by
   have:ts.getD j 0=0\/ts.getD j 0=1\/ts.getD j 0=1+i:=by
    rcases ao j ts.length with y | y
    ·have m:ts.getD j 0∈ts:=by
      rw [ac,aq y];exact eQ y
     rw [hts] at m ⊢;rcases cu.mp m with m | m
     ·rcases cu.mp m with m | m
      ·exact .inr (.inr (av.mp m))
      ·exact .inl (eE m)
     ·exact .inr (.inl (av.mp m))
    ·exact .inl (sS y)
   unfold Lt2;rcases this with e | e | e <;> rw [e] <;> omega
  have zP:Pc.Pz 2 1 P B:=Pc.Pz.of fm (c:=1) (by decide) hw tl (by unfold Lt2;decide);cases JX zP;have last:ts.getD s 0=1:=by
   rw [hts];exact tL (by rw [bq (by rw [aD,bv];show 1+(s-1)<=s;omega),aD,bv,show s-([1+i].length+(s-1))=0 by show s-(1+(s-1))=0;omega];rfl)
  have lP:P.length=s+1:=by
   have:=hw s;rw [last] at this;rcases ao s P.length with y | y
   ·omega
   ·rw [sS y] at this;omega
  refine ⟨ur,q _ ⟨P,1,s,k,rfl,⟨hs,zP.mono (by decide) (by decide),lP,fun R' C' it'=>?_⟩,zP.mono (by decide) (by decide)⟩⟩;obtain ⟨j,rfl⟩:∃ j,k=j+1:=⟨k-1,by omega⟩;rcases sm with sm | ⟨s2',sm⟩
  ·have:=Aw zP (by omega) lP (by omega) n16 it';rw [lP] at this;exact this.mono sm (by decide)
  ·subst s2';have w1:P.getD 1 0*1=ts.getD 1 0*1:=hw 1;have w2:P.getD 2 0*1=ts.getD 2 0*1:=hw 2;have t1:ts.getD 1 0=0:=by rw [hts];rfl
   exact (E1 zP lP (by omega) (by omega) n16 it').mono sm (by decide)
theorem Jt {P:List Int}{B:Int}{s k:Nat}{Q:D->Prop}(hs:Shp s k)(z:Pc.Pz 7 3 P B)(lP:P.length=s+1)(q:∀ d,(∃ H V s k,d = .tup [pD H V,.int (k:Nat)]/\LQ H V s k/\Pc.Pz 114 25 H V)->Q d):kb.run (tf Q) [.val .fl,.val (.int (s:Nat)),.val (.int (k:Nat)),.val (pD P B),.no,.no,.no]:=by
 obtain ⟨s2,s4,k2,k4,n16,_,ag,sm⟩:=hs.l;have z':Pc.Pz 114 25 P B:=z.mono (by decide) (by decide);refine ⟨rfl,4,⟨rfl,by decide,DK (by decide)⟩,?_⟩;rintro _ ⟨i,rfl,i0,i4⟩;refine xJ (p:=i=0) (fun c=>?_) (fun c=>Cq hs z' lP q);have le:(t7 (P.map D.int)).length=s+1:=by simp [t7,lP]
 refine ⟨(congrArg (· <= sizeLine) le).mpr (vf (by omega)),nI (fun j=>P.getD j 0*(if decide (((s:Int)-(j:Int)).fmod 2=0) then (1:Int) else 0)),nI.nil,fun j d ys hd _ hy=>?_,fun ys _ hy=>?_⟩
 ·obtain ⟨hj,rfl⟩:=tT hd;refine ⟨rfl,by decide,?_,hy.snoc rfl⟩;refine ⟨7,1,z.tops j,?_,by decide⟩;by_cases h:((s:Int)-(j:Int)).fmod 2=0
  ·show Lt2 1 (if decide (((s:Int)-(j:Int)).fmod 2=0) then (1:Int) else 0);rw [if_pos (decide_eq_true h)];decide
  ·show Lt2 1 (if decide (((s:Int)-(j:Int)).fmod 2=0) then (1:Int) else 0);rw [if_neg (by simpa using h)];decide
 have hy:nI _ (t7 (P.map D.int)).length ys:=hy;rw [le] at hy;obtain ⟨ts,rfl,lt,ht⟩:=hy;refine ⟨rfl,(ts,B),⟨.inl rfl,z.fm.pos,z.bot.mono (by decide),by show ts.length<=1000;omega⟩,?_⟩;rintro _ ⟨H,V,rfl,fH,hw,hle⟩;have hw:∀ j,H.getD j 0*B=ts.getD j 0*V:=hw;have hle:H.length<=ts.length:=hle;have tl:∀ j,Lt2 7 (ts.getD j 0):=fun j=>by
  rcases ao j (s+1) with y | y
  ·rw [ht j y];dsimp only;split
   ·rw [bh];exact z.tops j
   ·rw [bw];exact wC _
  ·rw [sS (by omega)];exact wC _
 have zH:Pc.Pz 7 3 H V:=Pc.Pz.of fH z.fm.pos hw tl z.bot;have top:=uF z.fm lP;have lH:H.length=s+1:=by
  have e:=hw s;rw [ht s (by omega)] at e;dsimp only at e;rw [Int.sub_self,if_pos (by decide),bh] at e;rcases ao s H.length with y | y
  ·omega
  ·rw [sS y,aL] at e;rcases cy.mp e.symm with w | w
   ·exact absurd w top
   ·have:=fH.pos;omega
 refine ⟨ur,rfl,(3,2),⟨rfl,by decide,by unfold Lt2;decide,by decide,by decide⟩,?_⟩;rintro d ⟨r,fr⟩;have fr:FqD 2 2 d r:=fr;refine ⟨rfl,(fD 1 1,d,1,r,1,1,2,2),⟨rfl,ua (t:=1) (by decide),fr,by decide,by decide,by decide⟩,?_⟩;rintro _ ⟨L,v,rfl,zL,eL,lL,q0,q1⟩;have zL:Pc.Pz 6 3 L v:=zL;have lL:L.length<=2:=lL;have q1:Qp.q L v 1=1:=q1;obtain ⟨len,n1⟩:=xm (by rw [q1];decide) lL;refine ⟨rfl,(L,v,6,3),⟨rfl,zL,len,n1,by decide,by decide⟩,?_⟩;rintro _ ⟨L2,v2,rfl,zL2,lL2,p1,p0⟩;have zL2:Pc.Pz 10 6 L2 v2:=zL2;have lL2:L2.length<=2:=lL2;have p1:Qp.q L2 v2 1=1 / Qp.q L v 1:=p1;obtain ⟨len2,n2⟩:=xm (by rw [p1,q1];grind) lL2;refine ⟨rfl,(H,V,L,v,7,3,6,3),⟨rfl,zH,zL,by rw [lH];omega,by rw [lH];omega,by rw [lH,len];omega,by omega,by omega⟩,?_⟩;rintro _ ⟨M,w,rfl,o⟩;have o:Pc.Of H V L v M w:=o;obtain ⟨lM,_⟩:=Ch.Cy zH.fm zL.fm len n1 (by omega) o;have zM:=(o.size zH zL (by rw [lH,len];omega)).mono (n':=103) (b':=19) (by rw [lH];omega) (by rw [lH];omega);refine ⟨rfl,(L2,v2,M,w,10,6,103,19),⟨rfl,zL2,zM,by rw [len2];decide,by rw [len2];decide,by rw [lM,lH,len2];omega,by omega,by omega⟩,?_⟩;rintro _ ⟨M2,w2,rfl,o2⟩;have o2:Pc.Of L2 v2 M w M2 w2:=o2;obtain ⟨lM2,_⟩:=xE len2 n2 zL2.fm zM.fm (by omega) o2;have zM2:=(DW o2 len2 zL2 zM).mono (n':=114) (b':=25) (by decide) (by decide);exact Cq hs zM2 (by omega) q
theorem pM:Does 7 rK nv:=by
 rintro ds Q hn ⟨_,rfl,q⟩;have key:∀ s k:Nat,Shp s k->mo.run (tf Q) [.val .fl,.val (.int (s:Nat)),.val (.int (k:Nat)),.no,.no,.no,.no]:=fun s k hs=>by
  obtain ⟨s2,s4,k2,k4,n16,_,ag,sm⟩:=hs.l;have go:∀ m:Int,1<=m->m<=99->([D.fl,.int (s:Nat),.int m].length=je.n/\je.run [.fl,.int (s:Nat),.int m] fun d=>kb.run (tf Q) [.val .fl,.val (.int (s:Nat)),.val (.int (k:Nat)),.val d,.no,.no,.no]):=fun m m1 m9=>by
   refine ⟨rfl,(s,m,7),⟨rfl,by show s<=100;omega,m1,by unfold Lt2;omega,by decide⟩,?_⟩;rintro _ ⟨P,B,rfl,z,lP⟩;exact Jt hs z lP q
  refine ⟨vf (n:=3) (by decide),rfl,3,⟨rfl,by decide,DK (by decide)⟩,?_⟩;rintro _ ⟨i,rfl,i0,i1⟩;exact KN i0 i1 (go 3 (by decide) (by decide)) (go 9 (by decide) (by decide)) (go 99 (by decide) (by decide))
 refine ⟨ur,ur,ur,ur,ur,ur,vf (n:=6) (by decide),rfl,6,⟨rfl,by decide,DK (by decide)⟩,?_⟩;rintro _ ⟨i,rfl,i0,i1⟩;exact KM i0 i1 ⟨rfl,key 2 2 (by unfold Shp;decide)⟩ ⟨rfl,key 2 3 (by unfold Shp;decide)⟩ ⟨rfl,key 2 4 (by unfold Shp;decide)⟩ ⟨rfl,key 3 2 (by unfold Shp;decide)⟩ ⟨rfl,key 3 2 (by unfold Shp;decide)⟩ ⟨rfl,key 4 2 (by unfold Shp;decide)⟩
end Dp
namespace Dp
open PySem L2 Ch
theorem Ax {H:List Int}{V:Int}{k:Nat}{P:List Int}{B:Int}(fH:Po.Fm H V)(it:Pc.It H V k P B):Ag P B k H V:=⟨fH,fun x=>(It.e fH.pos it x).symm⟩
theorem Lo {H H':List Int}{V V':Int}{k:Nat}{P P':List Int}{B B':Int}(fP:Po.Fm P B)(fH':Po.Fm H' V')(it':Pc.It H' V' k P' B'):Ag P B k H' V'↔P'=P/\B'=B:=by
 constructor
 ·rintro ⟨_,e⟩;exact Qp.tS it'.fm fP fun x=>by rw [It.e fH'.pos it',e]
 ·rintro ⟨rfl,rfl⟩;exact Ax fH' it'
theorem zV {P H H':List Int}{B V V':Int}{s k:Nat}(hs:Shp s k)(lH:H.length=s+1)(h:Ag P B k H V)(fP:Po.Fm P B)(h':Ag P B k H' V'):H'.length=s+1/\P.length=s^k+1:=by
 obtain ⟨s2,s4,k2,k4,n16,n2,_,_⟩:=hs.l;have lP:P.length=s^k+1:=by
  obtain ⟨W,w,fW,lW,eW⟩:=yr h.1 lH (by omega) k;obtain ⟨rfl,_⟩:=Qp.tS fP fW fun x=>by rw [← h.2,eW]
  exact lW
 obtain ⟨t,z⟩:=vK fP lP (by omega) h';rcases z with ⟨lt,et⟩ | z
 ·rw [t6 (by omega) et] at lt;exact ⟨lt,lP⟩
 ·omega
theorem z7 {P H:List Int}{B V:Int}{s k:Nat}{a b c:Pl}(hs:Shp s k)(lH:H.length=s+1)(h:Ag P B k H V)(fP:Po.Fm P B)(ha:Ag P B k a.1 a.2)(hb:Ag P B k b.1 b.2)(hc:Ag P B k c.1 c.2)(x1:ld a<ld b)(x2:ld b<ld c):False:=by
 obtain ⟨s2,s4,k2,k4,n16,n2,_,_⟩:=hs.l;have la:=(zV hs lH h fP ha).1;have lb:=(zV hs lH h fP hb).1;have lc:=(zV hs lH h fP hc).1;obtain ⟨k',rfl⟩:∃ k',k=k'+1:=⟨k-1,by omega⟩;obtain ⟨s',rfl⟩:∃ s',s=s'+2:=⟨s-2,by omega⟩;have e1:1<=LP (s'+2) (k'+1):=hs.s.e1;have pa:=vc fP la ha;have pb:=vc fP lb hb;have pc:=vc fP lc hc;have ea:ld a=Qp.q a.1 a.2 (s'+2):=by unfold ld;rw [la];rfl
 have eb:ld b=Qp.q b.1 b.2 (s'+2):=by unfold ld;rw [lb];rfl
 have ec:ld c=Qp.q c.1 c.2 (s'+2):=by unfold ld;rw [lc];rfl
 rw [← ea] at pa;rw [← eb] at pb;rw [← ec] at pc;have y1:=yW e1 (pa.symm.trans pb);have y2:=yW e1 (pb.symm.trans pc);have y3:=yW e1 (pa.symm.trans pc);generalize ld a=x at *;generalize ld b=y at *;generalize ld c=w at *;rcases y1 with y1 | ⟨y1,_⟩
 ·grind
 ·rcases y2 with y2 | ⟨y2,_⟩
  ·grind
  ·grind
theorem FH {ts:List Int}{a:Nat}(h:ts.length=a+1):xZ (ts.map D.int) (-1)=some (.int (ts.getD a 0)):=by
 unfold xZ AX;rw [if_neg (by decide),aa,h,if_pos (by omega)];show (ts.map D.int)[(((a+1:Nat):Int) + -1).toNat]? = _;rw [show (((a+1:Nat):Int) + -1).toNat=a by omega];exact tI (by omega)
end Dp
namespace Dp
open PySem L2 Ch
theorem FX {L T:List Int}{v t:Int}{nl vl:Nat}(zL:Pc.Pz nl vl L v)(n1:L.getD 1 0≠0)(fT:Po.Fm T t)(lT:T.length<=2)(q1:Qp.q T t 1=1 / Qp.q L v 1)(q0:Qp.q T t 0=(0-Qp.q L v 0) / Qp.q L v 1):Pc.Pz (max nl vl) nl T t:=by
 have v0:=Qp.sQ zL.fm.pos;have t0:=Qp.sQ fT.pos;have m0:=Qp.tO n1;have e1:T.getD 1 0*L.getD 1 0=v*t:=by
  apply de.mp;rw [aB,aB];unfold Qp.q at q1;generalize ((T.getD 1 0:Int):Rat)=a at *;generalize ((L.getD 1 0:Int):Rat)=b at *;generalize (v:Rat)=c at *;generalize (t:Rat)=d at *;grind
 have e0:T.getD 0 0*L.getD 1 0 = -L.getD 0 0*t:=by
  apply de.mp;rw [aB,aB,gB];unfold Qp.q at q0;generalize ((T.getD 0 0:Int):Rat)=a at *;generalize ((L.getD 0 0:Int):Rat)=e at *;generalize ((L.getD 1 0:Int):Rat)=b at *;generalize (v:Rat)=c at *;generalize (t:Rat)=d at *;grind
 have key:∀ s:Int,(s=1\/s = -1)->0<L.getD 1 0*s->Pc.Pz (max nl vl) nl T t:=fun s hs c0=>by
  have ls:∀ {n:Nat} {x:Int},Lt2 n x->Lt2 n (s*x):=fun {n x} h=>by
   rcases hs with rfl | rfl
   ·rw [bV];exact h
   ·rw [show -1*x = -x by omega];exact h.neg
  refine Pc.Pz.of (c:=L.getD 1 0*s) (f:=fun k=>if k=0 then s * -L.getD 0 0 else if k=1 then s*v else 0) fT c0 (fun k=>?_) (fun k=>?_) (by rw [bt];exact ls (zL.tops 1))
  ·match k with
   | 0=>show T.getD 0 0*(L.getD 1 0*s)=s * -L.getD 0 0*t;grind
   | 1=>show T.getD 1 0*(L.getD 1 0*s)=s*v*t;grind
   | k+2=>show T.getD (k+2) 0*(L.getD 1 0*s)=0*t;rw [ac,br (by omega)];show 0*_=_;omega
  ·match k with
   | 0=>exact (ls (zL.tops 0).neg).mono (by omega)
   | 1=>exact (ls zL.bot).mono (by omega)
   | k+2=>exact wC _
 rcases dR n1 with y | y
 ·exact key (-1) (.inr rfl) (by omega)
 ·exact key 1 (.inl rfl) (by omega)
theorem F9 {L:List Int}{v:Int}{k:Nat}(v0:0<v)(h:L.getD k 0≠0):Qp.q L v k≠0:=by
 have a:=Qp.sQ v0;have b:=Qp.tO h;unfold Qp.q;generalize ((L.getD k 0:Int):Rat)=x at *;generalize (v:Rat)=y at *;grind
def LB (H:List Int)(V:Int)(L:List Int)(v:Int)(W:List Int)(w:Int):Prop:=Po.Fm W w/\W.length=H.length/\(∀ x,Qp.E W w (Qp.E L v x)=Qp.E L v (Qp.E H V x))/\ld (W,w)=Qp.q L v 1*(ld (H,V)*(1 / Qp.q L v 1)^(H.length-1))
def jb:SpB:=.of 2 (α:=List Int×Int×List Int×Int×Nat×Nat) (fun (H,V,L,v,n,b) ds=>ds=[pD H V,pD L v]/\Pc.Pz n b H V/\Pc.Pz 8 4 L v/\L.length=2/\L.getD 1 0≠0/\3<=H.length/\H.length<=17/\b<=n/\n<=1000000)
 (fun (H,V,L,v,n,b) d=>∃ W w,d=pD W w/\Pc.Pz (n+26*H.length+10) (b+8*H.length+5) W w/\LB H V L v W w)
def mT:TSd:=(iP [] (iK pj (iH (iI 1) (iH (iK pj (iH (iI 0) (iH (iK j6 (iH (iI 1) iJ)) iJ))) iJ))))
theorem kC:Does 2 mT jb:=by
 rintro ds Q hn ⟨⟨H,V,L,v,n,b⟩,⟨rfl,z,zL,lL,n1,l2,l17,bn,nm⟩,q⟩;dsimp only at z zL lL n1 l2 l17 bn nm q;have q1:=F9 zL.fm.pos n1;refine ⟨rfl,(L,v,8,4),⟨rfl,zL,q1,by decide⟩,?_⟩;rintro _ ⟨T,t,rfl,zT0,eT,lT,p0,p1⟩;have lT:T.length<=2:=lT;have p1:Qp.q T t 1=1 / Qp.q L v 1:=p1;have p0:Qp.q T t 0=(0-Qp.q L v 0) / Qp.q L v 1:=p0;have eT:∀ x,Qp.E T t x=1 / Qp.q L v 1*x+(0-Qp.q L v 0) / Qp.q L v 1:=eT;have zT:Pc.Pz 8 8 T t:=FX zL n1 zT0.fm lT p1 p0;obtain ⟨len,m1⟩:=xm (by rw [p1];generalize Qp.q L v 1=y at *;grind) lT;refine ⟨rfl,(H,V,T,t,n,b,8,8),⟨rfl,z,zT,by show b+8*H.length<=_;omega,by show n+(8+8+10)*(H.length+1)<=_;omega,by show H.length*T.length<=_;rw [len];omega,by show H.length<=_;omega,by show T.length<=_;omega⟩,?_⟩;rintro _ ⟨S,d,rfl,o⟩;have o:Pc.Of H V T t S d:=o;obtain ⟨lS,ldS⟩:=Ch.Cy z.fm zT.fm len m1 (by omega) o;have zS:=(o.size z zT (by rw [len];omega)).mono (n':=n+26*H.length+1) (b':=b+8*H.length+1) (by omega) (by omega);refine ⟨rfl,(L,v,S,d,8,4,n+26*H.length+1,b+8*H.length+1),⟨rfl,zL,zS,by show 4+(b+8*H.length+1)*L.length<=_;rw [lL];omega,by show 8+(n+26*H.length+1+(b+8*H.length+1)+10)*(L.length+1)<=_;rw [lL];omega,by show L.length*S.length<=_;rw [lL,lS];omega,by show L.length<=_;omega,by show S.length<=_;omega⟩,?_⟩;rintro _ ⟨W,w,rfl,o2⟩;have o2:Pc.Of L v S d W w:=o2;obtain ⟨lW,ldW⟩:=xE lL n1 zL.fm zS.fm (by omega) o2;refine q _ ⟨W,w,rfl,(DW o2 lL zL zS).mono (by omega) (by omega),o2.1,by omega,fun x=>?_,by rw [ldW,ldS,p1]⟩;rw [Qp.AV zL.fm.pos zS.fm.pos o2,Qp.AV z.fm.pos zT.fm.pos o,eT,FN zL.fm lL n1 x];congr 2;generalize Qp.q L v 1=y at *;generalize Qp.q L v 0=u at *;grind
end Dp
namespace Dp
open PySem L2 Ch
theorem Shp.a1 {s k:Nat}(h:Shp s k):Hm (s+1) k 275 45 1 90000000:=by
 rcases h with ⟨rfl,rfl⟩ | ⟨rfl,rfl⟩ | ⟨rfl,rfl⟩ | ⟨rfl,rfl⟩ | ⟨rfl,rfl⟩;all_goals (unfold Hm;decide +kernel)
theorem tF {P H:List Int}{B V:Int}{s k:Nat}{ls:List Pl}(hs:Shp s k)(lH:H.length=s+1)(h:Ag P B k H V)(fP:Po.Fm P B)(hr:AgR P B k ls):ls.length<=2:=by
 match ls,hr with
 | [],_=>exact aC _
 | [_],_=>exact (show 1<=2 by decide)
 | [_,_],_=>exact am 2
 | a::b::c::l,hr =>
  exfalso;have ha:=(hr.1 a).mp ar;have hb:=(hr.1 b).mp (aw _ ar);have hc:=(hr.1 c).mp (aw _ (aw _ ar));obtain ⟨p1,p2⟩:=dP.mp hr.2;obtain ⟨p3,p4⟩:=dP.mp p2;exact z7 hs lH h fP ha hb hc (p1 b ar) (p3 c ar)
theorem Jd {x:Pl}{ls:List Pl}:pq x∈ls.map pq↔x∈ls:=by
 rw [dM];constructor
 ·rintro ⟨y,hy,e⟩;injection e with e;obtain ⟨e1,e2⟩:=pD_iff.mp e;rwa [← show y=x from Prod.ext e1 e2]
 ·exact fun h=>⟨x,h,rfl⟩
theorem Bd:∀ ls:List Pl,D.dps (ls.map pq)<=60
 | []=>aC _
 | l::ls=>by
  show max (D.dps [.tup (l.1.map D.int),.int l.2]+1) (D.dps (ls.map pq))<=60;have h1:D.dps [.tup (l.1.map D.int),.int l.2]<=2:=by
   show max (D.dps (l.1.map D.int)+1) (max 0 0)<=2;rw [Dz];decide
  have:=Bd ls;omega
theorem HW {x:Pl}{ls:List Pl}{neg:Bool}{Q:D->Prop}(q:∀ b:Bool,(b=true↔x∈ls)->Q (.bl (if neg then !b else b))):oIn neg (pq x) (.lst (ls.map pq)) Q :=
 .inr (.inr ⟨ls.map pq,rfl,xB _ _,vW ls,Bd ls,fun b h=>q b (h.trans Jd)⟩)
def kc:SpB:=.of 2 (α:=List Int×Int×Nat×Nat) (fun (H,V,s,k) ds=>ds=[pD H V,.int k]/\LQ H V s k) (fun _ d=>d = .bl true)
def ju:TSd:=(iP [] (dOr (iR .Lt (dB bLen bLen.mono (iH (iI 5) iJ)) (dC (.int 2))) (iR .Lt (iL .Mult (dIx (dIx (iI 5) (dC (.int 0))) (dC (.int 0))) (dIx (dIx (iI 5) (dC (.int 1))) (dC (.int 1)))) (iL .Mult (dIx (dIx (iI 5) (dC (.int 1))) (dC (.int 0))) (dIx (dIx (iI 5) (dC (.int 0))) (dC (.int 1)))))))
def jT:TSd:=dSq (iO [] (gNm 5) (iT (i5 (iI 3)) [4] (gNm 4) i9 (iK iV (iH (dIx (dIx (iI 4) (dC (.int 0))) (mr (dC (.int 1)))) (iH (dIx (iI 4) (dC (.int 1))) iJ)))))
 ju
def jU:TSd:=dSq (dIf [] (kG (iQ (iR .NotIn (iI 0) (iI 3))) (kG (jz (jZ (dB bAll bAll.mono (iH (iT (i5 (iI 3)) [4] (gNm 4) i9 (iR .Eq (iK jp (iH (iI 4) (iH (iI 1) iJ))) (iI 2))) iJ)))) (iQ (iR .Gt (dB bLen bLen.mono (iH (iI 3) iJ)) (dC (.int 2))))))
 (iP [] (dC (.bl false)))
 iW)
 jT
def mU:TSd:=dSq (iO [] (gNm 3) (iK i6 (iH (iI 2) (iH (iI 1) iJ))))
 jU
def oo:TSd:=dSq (iO [] (gNm 2) (iK jp (iH (iI 0) (iH (iI 1) iJ))))
 mU
theorem xX {ls:List Pl}:(ls.map fun _=>true).all id=true:=by
 rw [fY,cB];exact fun _ _=>rfl
theorem EK {b:TTd}{ss:SS}{Q0:Bool->Prop}{i j:Nat}{x:Pl}{ls:List Pl}(hi:∀ Q,Q (pq x)->(iI i).run ss Q)(hj:∀ Q,Q (.lst (ls.map pq))->(iI j).run ss Q)(m:x∈ls)(h:b.run ss Q0):(kG (iQ (iR .NotIn (iI i) (iI j))) b).run ss Q0:=by
 have h0:oIn true (pq x) (.lst (ls.map pq)) (fun d=>match d with | D.bl k=>(if k=true then Q0 true else b.run ss Q0) | _=>False):=HW fun k hk=>by
  cases hk.mpr m;exact h
 exact hi _ (hj _ h0)
theorem EL {E:EndsD}{b:TTd}{t u T:TSd}{ss:SS}{i j:Nat}{x:Pl}{ls:List Pl}(hi:∀ Q,Q (pq x)->(iI i).run (frz [] ss) Q)(hj:∀ Q,Q (.lst (ls.map pq))->(iI j).run (frz [] ss) Q)(m:x∈ls)(h:b.run (frz [] ss) fun k=>if k=true then t.run (E.to (T.run E)) (frz [] ss) else u.run (E.to (T.run E)) (frz [] ss)):(dSq (dIf [] (kG (iQ (iR .NotIn (iI i) (iI j))) b) t u) T).run E ss:=EK hi hj m h
theorem Dh {b:TTd}{ss:SS}{Q0:Bool->Prop}{c:TEd}{ls:List Pl}(hc:∀ Q,Q (.lst (ls.map fun _=>.bl true))->c.run ss Q)(h:b.run ss Q0):(kG (jz (jZ (dB bAll bAll.mono (iH c iJ)))) b).run ss Q0:=by
 refine hc _ ⟨ls.map fun _=>true,by rw [fQ];rfl,?_⟩;rw [xX];exact h
theorem KH {E:EndsD}{H R:List Int}{V C:Int}{s k:Nat}{ls:List Pl}{o4 o5:SD}(hs:Shp s k)(fR:Po.Fm R C)(lH:H.length=s+1)(ah:Ag R C k H V)(hr:AgR R C k ls)(hw:∀ w∈ls,w.1.length=s+1/\Pc.Pz (nW s (s^(k-1))) (bW s (s^(k-1))) w.1 w.2)(h:∀ o4,jT.run E [.val (pD H V),.val (.int (k:Nat)),.val (pD R C),.val (.lst (ls.map pq)),o4,o5]) :
  jU.run E [.val (pD H V),.val (.int (k:Nat)),.val (pD R C),.val (.lst (ls.map pq)),o4,o5]:=by
 have l2:=tF hs lH ah fR hr;have hS:=hs.s;refine EL (i:=0) (j:=3) (x:=(H,V)) (ls:=ls) ?_ ?_ ((hr.1 (H,V)).mpr ah) ?_
 ·exact fun Q q=>q
 ·exact fun Q q=>q
 refine Dh (ls:=ls) (fun Q q=>?_) ?_;suffices h4:compD (ls.map pq) [.val (pD H V),.val (.int (k:Nat)),.val (pD R C),.val (.lst (ls.map pq)),.no,o5] (gNm 4) i9 (iR .Eq (iK jp (iH (iI 4) (iH (iI 1) iJ))) (iI 2)) Q from h4;refine uv (xs:=ls) (F:=pq) (G:=fun _=>.bl true) rfl (by omega) (fun x hx=>?_) q
 ·obtain ⟨lx,zx⟩:=hw x hx;refine ⟨rfl,(x.1,x.2,s,k,nW s (s^(k-1)),bW s (s^(k-1))),⟨rfl,zx,lx,by have:=hS.s2;show 1<=s;omega,by have:=hS.s4;show s<=100;omega,by have:=hS.k4;show k<=20;omega,hS.ag⟩,?_⟩;rintro _ ⟨R',C',rfl,it'⟩;have it':Pc.It x.1 x.2 k R' C':=it';refine ⟨xB _ _,xB _ _,ED _ _,fun kk hk=>?_⟩;have hk:=hk.trans (pD_iff (A:=R') (A':=R) (B:=C') (B':=C));cases hk.mpr ((Lo (H:=x.1) (V:=x.2) fR zx.fm it').mp ((hr.1 x).mp hx));rfl
 ·refine xJ (p:=(((ls.map pq).length:Nat):Int) > 2) (fun c=>?_) (fun c=>h _);rw [aa] at c;omega
theorem HR {w:Pl}{s:Nat}(fw:Po.Fm w.1 w.2)(l:w.1.length=s+1):ld w=((Fr.top (w.1.getD s 0) w.2:Int):Rat) / ((Fr.bot (w.1.getD s 0) w.2:Int):Rat):=by
 show Qp.q w.1 w.2 (w.1.length-1)=_;rw [l,bK];unfold Qp.q;have p:=fw.pos;obtain ⟨l1,l2,l3⟩:=Fr.low (t:=w.1.getD s 0) (b:=w.2) (by omega);exact (Qp.tR (by omega) (by omega)).mpr l2.symm
theorem KG {ls:List Pl}{s k:Nat}{d0 d1 d2 d3:D}{o4:SD}{Q:D->Prop}(q:∀ d,d = .bl true->Q d)(l2:ls.length<=2)(hw:∀ w∈ls,Po.Fm w.1 w.2/\w.1.length=s+1/\Lt2 1000000 (w.1.getD s 0)/\Lt2 1000000 w.2)(hp:ls.Pairwise fun h h'=>ld h<ld h') :
  ju.run (tf Q) [.val d0,.val d1,.val d2,.val d3,o4,.val (.lst (ls.map fun w=>fD (Fr.top (w.1.getD s 0) w.2) (Fr.bot (w.1.getD s 0) w.2)))]:=by
 match ls,l2,hw,hp with
 | [],_,_,_=>exact q _ rfl
 | [a],_,_,_=>exact q _ rfl
 | [a,b],_,hw,hp =>
  obtain ⟨fa,la,ta,ba⟩:=hw a ar;obtain ⟨fb,lb,tb,bb⟩:=hw b (aw _ ar);have lt:=ip.mp hp;rw [HR fa la,HR fb lb] at lt;have pa:=fa.pos;have pb:=fb.pos;obtain ⟨a1,a2,a3⟩:=Fr.low (t:=a.1.getD s 0) (b:=a.2) (by omega);obtain ⟨b1,b2,b3⟩:=Fr.low (t:=b.1.getD s 0) (b:=b.2) (by omega);obtain ⟨a4,a5⟩:=Fr.yM (t:=a.1.getD s 0) (b:=a.2) (by omega);obtain ⟨b4,b5⟩:=Fr.yM (t:=b.1.getD s 0) (b:=b.2) (by omega);have key:Fr.top (a.1.getD s 0) a.2*Fr.bot (b.1.getD s 0) b.2<Fr.top (b.1.getD s 0) b.2*Fr.bot (a.1.getD s 0) a.2:=by
   have x:=eZ.mpr a1;have y:=eZ.mpr b1;apply Rat.intCast_lt_intCast.mp;rw [aB,aB];generalize ((Fr.top (a.1.getD s 0) a.2:Int):Rat)=p at *;generalize ((Fr.top (b.1.getD s 0) b.2:Int):Rat)=r at *;generalize ((Fr.bot (a.1.getD s 0) a.2:Int):Rat)=u at *;generalize ((Fr.bot (b.1.getD s 0) b.2:Int):Rat)=v at *;have:=gE lt (gy x y);have e1:p / u*(u*v)=p*v:=by grind
   have e2:r / v*(u*v)=r*u:=by grind
   rwa [e1,e2] at this
  refine ⟨⟨1000000,1000000,ta.le a4,bb.le b5,by decide⟩,⟨1000000,1000000,tb.le b4,ba.le a5,by decide⟩,?_⟩;refine q _ ?_;show D.bl (decide _)=_;rw [decide_eq_true key]
 | _::_::_::_,l2,_,_=>simp at l2
theorem lY:Does 6 oo kc:=by
 rintro ds Q hn ⟨⟨H,V,s,k⟩,⟨rfl,one⟩,q⟩;dsimp only at one q;obtain ⟨hs,z,lH,hz⟩:=one;obtain ⟨s2,s4,k2,k4,n16,n2,ag,_⟩:=hs.l;have hS:=hs.s;refine ⟨rfl,(H,V,s,k,275,45),⟨rfl,z,lH,by show 1<=s;omega,by show s<=100;omega,by show k<=20;omega,hs.a1⟩,?_⟩;rintro _ ⟨R,C,rfl,it⟩;have it:Pc.It H V k R C:=it;have lR:=It.len z.fm lH (by omega) it;refine ⟨rfl,(R,C,s^k,k),⟨rfl,(hz R C it).mono (by decide) (by decide),lR,n2,n16,k2,k4⟩,?_⟩;rintro _ ⟨ls,rfl,hr,hw⟩;have hr:AgR R C k ls:=hr;have hw:∀ w∈ls,w.1.length=s+1/\Pc.Pz (nW s (s^(k-1))) (bW s (s^(k-1))) w.1 w.2:=fun w h=>by
  obtain ⟨s',e,l,z⟩:=hw w h;cases t6 (show 1<=k by omega) e;exact ⟨l,z⟩
 have ah:=Ax z.fm it;have l2:=tF hs lH ah it.fm hr;refine KH hs it.fm lH ah hr hw fun o4=>?_;suffices h4:compD (ls.map pq) [.val (pD H V),.val (.int (k:Nat)),.val (pD R C),.val (.lst (ls.map pq)),.no,.no] (gNm 4) i9 (iK iV (iH (dIx (dIx (iI 4) (dC (.int 0))) (mr (dC (.int 1)))) (iH (dIx (iI 4) (dC (.int 1))) iJ))) (fun d=>ju.run (tf Q) [.val (pD H V),.val (.int (k:Nat)),.val (pD R C),.val (.lst (ls.map pq)),o4,.val d]) from h4;refine uv (xs:=ls) (F:=pq) (G:=fun w=>fD (Fr.top (w.1.getD s 0) w.2) (Fr.bot (w.1.getD s 0) w.2)) rfl (by omega) (fun w h=>?_) ?_
 ·obtain ⟨lw,zw⟩:=hw w h;refine uD (d:=.int (w.1.getD s 0)) (FH lw) ?_;have:=zw.fm.pos;refine ⟨rfl,(w.1.getD s 0,w.2),⟨rfl,by show w.2≠0;omega,zw.bot.mono (aH hS.w1 (by decide))⟩,?_⟩;rintro _ rfl;rfl
 ·exact KG (k:=k) q l2 (fun w h=>by
   obtain ⟨lw,zw⟩:=hw w h;exact ⟨zw.fm,lw,(zw.tops s).mono hS.w2,zw.bot.mono (aH hS.w1 (by decide))⟩) hr.2
end Dp
namespace Dp
open PySem L2 Ch Qp
theorem zm {f g l:Rat->Rat}(h:∀ x,g (l x)=l (f x)):∀ (k:Nat) (x:Rat),xG g k (l x)=l (xG f k x)
 | 0,_=>rfl
 | k+1,x=>by
  show xG g k (g (l x))=l (xG f k (f x));rw [h,zm h k]
theorem zl (f:Rat->Rat)(j:Nat):∀ (k:Nat) (x:Rat),xG (xG f j) k x=xG f (j*k) x
 | 0,_=>rfl
 | k+1,x=>by
  show xG (xG f j) k (xG f j x)=_;rw [zl f j k];have add:∀ (a b:Nat) (x:Rat),xG f a (xG f b x)=xG f (b+a) x:=fun a b=>by
   induction b with
   | zero=>intro x;rw [gR];rfl
   | succ b ih=>intro x;rw [show b+1+a=(b+a)+1 by omega];exact ih (f x)
  rw [add,bJ,Nat.add_comm]
theorem Ht {L:List Int}{v:Int}(fL:Po.Fm L v)(lL:L.length=2)(n1:L.getD 1 0≠0):(∀ y,∃ x,E L v x=y)/\∀ x y,E L v x=E L v y->x=y:=by
 have q1:=F9 fL.pos n1;refine ⟨fun y=>⟨(y-q L v 0) / q L v 1,?_⟩,fun x y h=>?_⟩
 ·rw [FN fL lL n1];generalize q L v 1=a at *;grind
 ·rw [FN fL lL n1,FN fL lL n1] at h;generalize q L v 1=a at *;generalize q L v 0=b at *;grind
theorem FD {F F' H W L:List Int}{B B' V w v:Int}{k:Nat}(fL:Po.Fm L v)(lL:L.length=2)(n1:L.getD 1 0≠0)(bF:∀ x,E F' B' (E L v x)=E L v (E F B x))(bH:∀ x,E W w (E L v x)=E L v (E H V x))(fH:Po.Fm H V)(fW:Po.Fm W w):Ag F B k H V↔Ag F' B' k W w:=by
 obtain ⟨on,inj⟩:=Ht fL lL n1;constructor
 ·intro a;refine ⟨fW,fun y=>?_⟩;obtain ⟨x,rfl⟩:=on y;rw [zm (l:=E L v) bH,bF,a.2]
 ·intro a;refine ⟨fH,fun x=>inj _ _ ?_⟩;rw [← zm (l:=E L v) bH,a.2,bF]
theorem FC {L G:List Int}{v u:Int}(fL:Po.Fm L v)(lL:L.length=2)(n1:L.getD 1 0≠0)(fG:Po.Fm G u):∃ H V,Po.Fm H V/\∀ x,E G u (E L v x)=E L v (E H V x):=by
 have q1:=F9 fL.pos n1;obtain ⟨T,t,fT,lT,_,_,eT⟩:=Hu (1 / q L v 1) (-(q L v 0) / q L v 1) (by generalize q L v 1=a at *;grind);obtain ⟨S,d,o⟩:=xC fG fL;obtain ⟨H,V,o'⟩:=xC fT o.1;refine ⟨H,V,o'.1,fun x=>?_⟩;rw [AV fT.pos o.1.pos o',AV fG.pos fL.pos o,eT,FN fL lL n1 (1 / q L v 1*E G u (E L v x) + -(q L v 0) / q L v 1)];generalize E G u (E L v x)=y;generalize q L v 1=a at *;generalize q L v 0=b at *;grind
theorem GJ {s k:Nat}(hs:Shp s k)(h:LP s k%2=0):s=3:=by
 rcases hs with ⟨rfl,rfl⟩ | ⟨rfl,rfl⟩ | ⟨rfl,rfl⟩ | ⟨rfl,rfl⟩ | ⟨rfl,rfl⟩;all_goals first | rfl | exact absurd h (by decide)
theorem ye {F:List Int}{B:Int}{s k:Nat}{a b:Pl}(hs:Shp s k)(fF:Po.Fm F B)(la:a.1.length=s+1)(lb:b.1.length=s+1)(ha:Ag F B k a.1 a.2)(hb:Ag F B k b.1 b.2)(ne:a≠b):s=3:=by
 obtain ⟨s2,s4,k2,k4,_⟩:=hs.l;obtain ⟨s',rfl⟩:∃ s',s=s'+2:=⟨s-2,by omega⟩;obtain ⟨k',rfl⟩:∃ k',k=k'+2:=⟨k-2,by omega⟩;rcases J3 fF la lb ha hb with ⟨_,e1,e2⟩ | ⟨e,_⟩
 ·exact absurd (Prod.ext e1 e2).symm ne
 ·exact GJ hs e
theorem He {F F' L:List Int}{B B' v:Int}{s k:Nat}{ls ws:List Pl}(hs:Shp s k)(fF:Po.Fm F B)(fL:Po.Fm L v)(lL:L.length=2)(n1:L.getD 1 0≠0)(bF:∀ x,E F' B' (E L v x)=E L v (E F B x))(hr:AgR F B k ls)(len:∀ w∈ls,w.1.length=s+1)(ll:ws.length=ls.length)(hw:∀ (i:Nat) (w:Pl),ws[i]? = some w->∃ h:Pl,ls[i]? = some h/\LB h.1 h.2 L v w.1 w.2):AgR F' B' k ws:=by
 obtain ⟨on,inj⟩:=Ht fL lL n1;have q1:=F9 fL.pos n1;refine ⟨fun g=>⟨fun m=>?_,fun a=>?_⟩,dm.mpr fun i j hi hj ij=>?_⟩
 ·obtain ⟨i,hi⟩:=bP.mp m;obtain ⟨h,e,b⟩:=hw i g hi;have ah:=(hr.1 h).mp (aM e);exact (FD fL lL n1 bF b.2.2.1 ah.1 b.1).mp ah
 ·obtain ⟨H,V,fH,eH⟩:=FC fL lL n1 a.1;have ah:=(FD fL lL n1 bF eH fH a.1).mpr a;obtain ⟨i,hi⟩:=bP.mp ((hr.1 (H,V)).mpr ah);have il:i<ws.length:=by rw [ll];exact (aj.mp hi).1
  obtain ⟨h,e,b⟩:=hw i _ (aq il);rw [hi] at e;cases e;obtain ⟨x1,x2⟩:=tS a.1 b.1 fun y=>by
   obtain ⟨x,rfl⟩:=on y;rw [eH];exact (b.2.2.1 x).symm
  rw [show g=ws[i] from Prod.ext x1 x2];exact eQ il
 ·obtain ⟨a,ea,ba⟩:=hw i _ (aq hi);obtain ⟨b,eb,bb⟩:=hw j _ (aq hj);have r:=dm.mp hr.2 i j (by omega) (by omega) ij;rw [(aj.mp ea).2,(aj.mp eb).2] at r;have ma:=aM ea;have mb:=aM eb;have s3:=ye hs fF (len a ma) (len b mb) ((hr.1 a).mp ma) ((hr.1 b).mp mb) (by rintro rfl;exact absurd r (by grind));subst s3;have e1:ld ws[i]=q L v 1*(ld a*(1 / q L v 1)^3):=by
   have:=ba.2.2.2;rwa [len a ma] at this
  have e2:ld ws[j]=q L v 1*(ld b*(1 / q L v 1)^3):=by
   have:=bb.2.2.2;rwa [len b mb] at this
  rw [e1,e2];generalize ld a=x at *;generalize ld b=y at *;generalize q L v 1=c at *;have h:∀ z:Rat,c*(z*(1 / c)^3)=z*((1 / c)*(1 / c)):=fun z=>by grind
  rw [h,h];have d0:1 / c≠0:=by grind
  have:0<(1 / c)*(1 / c):=by
   rcases Rat.le_total (a:=0) (b:=1 / c) with p | p
   ·have:=ix p (Ne.symm d0);exact gy this this
   ·have:0 < -(1 / c):=by
     have:=ix p d0;grind
    have:=gy this this;grind
  exact gE r this
end Dp
namespace Dp
open PySem L2 Ch
theorem zX {F H G:List Int}{B V U:Int}(a:Ag F B 4 H V)(it:Pc.It H V 2 G U):Ag F B 2 G U:=⟨it.fm,fun x=>by
 have e:Qp.E G U=xG (Qp.E H V) 2:=funext fun y=>It.e a.1.pos it y;rw [e,zl];exact a.2 x⟩
theorem BV {F H G:List Int}{B V U:Int}(h:Ag F B 2 G U)(a:Ag G U 2 H V):Ag F B 4 H V:=⟨a.1,fun x=>by
 have e:xG (Qp.E H V) 2=Qp.E G U:=funext fun y=>a.2 y;rw [show (4:Nat)=2*2 from rfl,← zl,e];exact h.2 x⟩
theorem E6 {F G:List Int}{B U:Int}{hs:List Pl}(fF:Po.Fm F B)(lF:F.length=17)(a:Ag F B 2 G U)(hr:AgR F B 2 hs):hs=[(G,U)]:=by
 have lg:∀ g:Pl,Ag F B 2 g.1 g.2->g.1.length=4+1:=fun g h=>by
  obtain ⟨t,z⟩:=vK (n:=16) fF lF (by decide) h;rcases z with ⟨l,e⟩ | z
  ·have:t=4:=t6 (k:=2) (by decide) (by rw [e]);omega
  ·omega
 refine hr.uniq ⟨fun g=>⟨fun m=>?_,fun h=>?_⟩,eN _ _⟩
 ·rw [av.mp m];exact a
 ·refine av.mpr ?_;by_cases e:g=(G,U)
  ·exact e
  ·have:=ye (s:=4) (k:=2) (by unfold Shp;decide) fF (lg g h) (lg (G,U) a) h a e;omega
theorem Lk {ss:SS}{Q:D->Prop}{c:TEd}{ls:List Pl}(hc:∀ Q,Q (.lst (ls.map fun _=>.bl true))->c.run ss Q)(q:Q (.bl true)):(dB bAll bAll.mono (iH c iJ)).run ss Q:=by
 refine hc _ ⟨ls.map fun _=>true,by rw [fQ];rfl,?_⟩;rw [xX];exact q
theorem zn {x:Pl}{ls:List Pl}{Q:D->Prop}(m:x∈ls)(q:Q (.bl true)):oIn false (pq x) (.lst (ls.map pq)) Q:=HW fun b hb=>by
 cases hb.mpr m;exact q
theorem MI {E:EndsD}{c c':TEd}{ss:SS}{ls qs:List Pl}(hc:∀ Q,Q (.lst (ls.map fun _=>.bl true))->c.run (frz [9] ss) Q)(hc':∀ Q,Q (.lst (qs.map fun _=>.bl true))->c'.run (frz [9] ss) Q)(q:E.rt (.bl true)):(iP [9] (qI (dB bAll bAll.mono (iH c iJ)) (dB bAll bAll.mono (iH c' iJ)))).run E ss:=by
 have h:=Lk hc' q;exact Lk (Q:=fun d=>match d with | .bl k=>(if k=true then (dB bAll bAll.mono (iH c' iJ)).run (frz [9] ss) E.rt else E.rt (.bl false)) | _=>False) hc h
def oH:TSd:=(iP [9] (qI (dB bAll bAll.mono (iH (iT (i5 (iI 6)) [7] (gNm 7) i9 (iR .In (iI 7) (iI 9))) iJ)) (dB bAll bAll.mono (iH (iT (i5 (iI 9)) [7] (gNm 7) i9 (iR .In (iI 7) (iI 6))) iJ))))
def oI:TSd:=(dSq (kY [] 9 (iY iJ))
 (dSq (jl [] (i5 (iI 8)) (gNm 7)
 (rT [] 9 (iK i6 (iH (iI 7) (iH (dC (.int 2)) iJ)))))
 oH))
def Kb:EndsD:=⟨fun _=>False,fun d=>d = .bl true,fun _=>False,fun _=>False⟩
theorem GM {d2 d3 d4 d5:D}{ls:List Pl}{G:Pl}{o7:SD}(l2:ls.length<=2)(zG:Pc.Pz 600 600 G.1 G.2)(lG:G.1.length=5)(h:∀ x:Pl,x∈ls↔Ag G.1 G.2 2 x.1 x.2) :
  oI.run Kb [.no,.val .fl,.val d2,.val d3,.val d4,.val d5,.val (.lst (ls.map pq)),o7,.val (.lst [pq G]),.no]:=by
 refine ⟨aC _,?_⟩;refine ⟨fun i ss=>∃ o7 qs,ss=[.no,.val .fl,.val d2,.val d3,.val d4,.val d5,.val (.lst (ls.map pq)),o7,.val (.lst [pq G]),.own (qs.map pq)]/\(i=0->qs=[])/\(i=1->∀ x:Pl,x∈qs↔Ag G.1 G.2 2 x.1 x.2)/\qs.length<=2,⟨_,[],rfl,fun _=>rfl,fun e=>absurd e (by decide),aC _⟩,?_,?_⟩
 ·rintro i d ss hd ⟨o7,qs,rfl,e0,_,_⟩;cases i with
  | succ i=>cases hd
  | zero =>
   cases hd;cases e0 rfl;refine ⟨rfl,(G.1,G.2,4,2),⟨rfl,zG,lG,by decide,by decide,by decide,by decide⟩,?_⟩;rintro _ ⟨qs,rfl,hr,_⟩;have hr:AgR G.1 G.2 2 qs:=hr;have lq:qs.length<=2:=by
    cases qs with
    | nil=>exact aC _
    | cons a qs =>
     have ha:=(hr.1 a).mp ar;have la:a.1.length=2+1:=by
      obtain ⟨t,z⟩:=vK (n:=4) zG.fm lG (by decide) ha;rcases z with ⟨l,e⟩ | z
      ·have:t=2:=t6 (k:=2) (by decide) (by rw [e]);omega
      ·omega
     exact tF (s:=2) (k:=2) (by unfold Shp;decide) la ha zG.fm hr
   exact ⟨_,rfl,by show 0+(qs.map pq).length<=_;rw [aa];exact vf (by omega),_,qs,rfl,fun e=>absurd e (by decide),fun _=>hr.1,lq⟩
 ·rintro ss ⟨o7,qs,rfl,_,e1,lq⟩;have e1:=e1 rfl;suffices hh:oH.run Kb [.no,.val .fl,.val d2,.val d3,.val d4,.val d5,.val (.lst (ls.map pq)),o7,.val (.lst [pq G]),.own (qs.map pq)] from hh;refine MI (ls:=ls) (qs:=qs) (fun Q q=>?_) (fun Q q=>?_) rfl
  ·suffices h4:compD (ls.map pq) [.no,.val .fl,.val d2,.val d3,.val d4,.val d5,.val (.lst (ls.map pq)),.no,.val (.lst [pq G]),.val (.lst (qs.map pq))] (gNm 7) i9 (iR .In (iI 7) (iI 9)) Q from h4;exact uv (xs:=ls) (F:=pq) (G:=fun _=>.bl true) rfl (by omega) (fun x hx=>zn (Q:=fun y=>y = .bl true) ((e1 x).mpr ((h x).mp hx)) rfl) q
  ·suffices h4:compD (qs.map pq) [.no,.val .fl,.val d2,.val d3,.val d4,.val d5,.val (.lst (ls.map pq)),.no,.val (.lst [pq G]),.val (.lst (qs.map pq))] (gNm 7) i9 (iR .In (iI 7) (iI 6)) Q from h4;exact uv (xs:=qs) (F:=pq) (G:=fun _=>.bl true) rfl (by omega) (fun x hx=>zn (Q:=fun y=>y = .bl true) ((h x).mpr ((e1 x).mp hx)) rfl) q
end Dp
namespace Dp
open PySem L2 Ch
theorem E2 {H:List Int}{V:Int}(f:Po.Fm H V):∃ P B,Pc.It H V 2 P B:=by
 obtain ⟨R,C,o1⟩:=xC f Pc.FK;obtain ⟨R2,C2,o2⟩:=xC f o1.1;exact ⟨R2,C2,R,C,⟨Pc.X,1,⟨rfl,rfl⟩,o1⟩,o2⟩
theorem JG {H G:List Int}{V U:Int}(z:Pc.Pz 114 25 H V)(lH:H.length=3)(it:Pc.It H V 2 G U):Pc.Pz 600 600 G U:=by
 obtain ⟨S,d,⟨_,_,⟨rfl,rfl⟩,o⟩,o2⟩:=it;obtain ⟨rfl,rfl⟩:=o.right z.fm;exact (o2.size z z (by rw [lH];decide)).mono (by rw [lH];decide) (by rw [lH];decide)
theorem Di {E:EndsD}{t T:TSd}{ss:SS}{c:TEd}{ls:List Pl}(hc:∀ Q,Q (.lst (ls.map fun _=>.bl true))->c.run (frz [] ss) Q)(h:T.run E (frz [] ss)):(dSq (dIf [] (jz (jZ (dB bAll bAll.mono (iH c iJ)))) t iW) T).run E ss:=by
 refine hc _ ⟨ls.map fun _=>true,by rw [fQ];rfl,?_⟩;rw [xX];exact h
def oJ:TSd:=(dSq (dIf [] (jz (jZ (dB bAll bAll.mono (iH (iT (i5 (iI 6)) [7] (gNm 7) i9 (iR .In (iK jp (iH (iI 7) (iH (dC (.int 2)) iJ))) (iI 8))) iJ))))
 (iP [] (dC (.bl false)))
 iW) oI)
def oK:TSd:=(dSq (iO [] (gNm 8) (iK i6 (iH (iI 5) (iH (dC (.int 2)) iJ)))) oJ)
theorem GO {H F:List Int}{V B:Int}{d2 d3 d4:D}{ls:List Pl}{o7:SD}(z5:Pc.Pz 114 25 H V)(lH:H.length=3)(zF:Pc.Pz 600 600 F B)(it:Pc.It H V 4 F B)(hr:AgR F B 4 ls)(hw:∀ w∈ls,w.1.length=2+1/\Pc.Pz (nW 2 (2^(4-1))) (bW 2 (2^(4-1))) w.1 w.2)(l2:ls.length<=2) :
  oK.run Kb [.no,.val .fl,.val d2,.val d3,.val d4,.val (pD F B),.val (.lst (ls.map pq)),o7,.no,.no]:=by
 obtain ⟨G,U,itG⟩:=E2 z5.fm;have lG:G.length=5:=It.len (k:=2) (s:=2) z5.fm lH (by decide) itG;have lF:F.length=17:=It.len (k:=4) (s:=2) z5.fm lH (by decide) it;have aG:=zX (Ax z5.fm it) itG;have hS:ShS 2 4:=Shp.s (by unfold Shp;decide);refine ⟨rfl,(F,B,16,2),⟨rfl,zF,lF,by decide,by decide,by decide,by decide⟩,?_⟩;rintro _ ⟨hs2,rfl,hr2,_⟩;have hr2:AgR F B 2 hs2:=hr2;cases E6 zF.fm lF aG hr2;suffices hh:oJ.run Kb [.no,.val .fl,.val d2,.val d3,.val d4,.val (pD F B),.val (.lst (ls.map pq)),o7,.val (.lst ([(G,U)].map pq)),.no] from hh;refine Di (ls:=ls) (fun Q q=>?_) ?_
 ·suffices h4:compD (ls.map pq) [.no,.val .fl,.val d2,.val d3,.val d4,.val (pD F B),.val (.lst (ls.map pq)),.no,.val (.lst ([(G,U)].map pq)),.no] (gNm 7) i9 (iR .In (iK jp (iH (iI 7) (iH (dC (.int 2)) iJ))) (iI 8)) Q from h4;refine uv (xs:=ls) (F:=pq) (G:=fun _=>.bl true) rfl (by omega) (fun x hx=>?_) q;obtain ⟨lx,zx⟩:=hw x hx;refine ⟨rfl,(x.1,x.2,2,2,nW 2 (2^(4-1)),bW 2 (2^(4-1))),⟨rfl,zx,lx,by decide,by decide,by decide,fun j hj=>hS.ag j (by omega)⟩,?_⟩;rintro _ ⟨G',U',rfl,it'⟩;have it':Pc.It x.1 x.2 2 G' U':=it';exact zn (Q:=fun y=>y = .bl true) (x:=(G',U')) (ls:=[(G,U)]) ((hr2.1 (G',U')).mpr (zX ((hr.1 x).mp hx) it')) rfl
 ·refine GM (G:=(G,U)) l2 (JG z5 lH itG) lG fun x=>⟨fun hx=>?_,fun a=>(hr.1 x).mpr (BV aG a)⟩;have ax:=(hr.1 x).mp hx;obtain ⟨G',U',it'⟩:=E2 ax.1;have e:=av.mp ((hr2.1 (G',U')).mpr (zX ax it'));injection e with e1 e2;subst e1;subst e2;exact Ax ax.1 it'
end Dp
namespace Dp
open PySem L2 Ch
theorem Dm {E:EndsD}{a b:TEd}{t T:TSd}{ss:SS}(ha:a.run (frz [] ss) fun d=>∃ ws:List Pl,d = .lst (ws.map pq)/\ws.length<=2/\b.run (frz [] ss) fun d'=>d' = .lst (ws.map pq))(h:T.run E (frz [] ss)) :
  (dSq (dIf [] (iQ (iR .NotEq (dB bSorted bSorted.mono (iH a iJ)) (dB bSorted bSorted.mono (iH b iJ)))) t iW) T).run E ss:=by
 refine a.mono (fun d hd=>?_) ha;obtain ⟨ws,rfl,l2,hb⟩:=hd;refine ⟨ws,rfl,l2,?_⟩;refine b.mono (fun d' hd=>?_) hb;subst hd;refine ⟨ws,rfl,l2,?_⟩;refine ⟨rfl,vW _,vW _,Bd _,fun k hk=>?_⟩;cases hk.mpr rfl;exact h
def oO:TSd:=(dSq (dIf [] (iQ (iR .Lt (iI 3) (dC (.int 4))))
 (iP [] (dC (.bl true)))
 iW) oK)
def oP:TSd:=(dSq (dIf [] (iQ (iR .NotEq (dB bSorted bSorted.mono (iH (iK i6 (iH (iK jb (iH (iI 5) (iH (iI 4) iJ))) (iH (iI 3) iJ))) iJ)) (dB bSorted bSorted.mono (iH (iT (i5 (iI 6)) [7] (gNm 7) i9 (iK jb (iH (iI 7) (iH (iI 4) iJ)))) iJ))))
 (iP [] (dC (.bl false)))
 iW) oO)
def sA:TSd:=(dSq (iO [] (gTp [2,3]) (iK nv (iH (iI 1) iJ)))
 (dSq (iO [] (gNm 4) (iK jv (iH (iI 1) (iH (dC (.int 3)) iJ))))
 (dSq (dIf [] (jz (jZ (iK kc (iH (iI 2) (iH (iI 3) iJ)))))
 (iP [] (dC (.bl false)))
 iW)
 (dSq (iO [] (gNm 5) (iK jp (iH (iI 2) (iH (iI 3) iJ))))
 (dSq (iO [] (gNm 6) (iK i6 (iH (iI 5) (iH (iI 3) iJ)))) oP)))))
theorem GN {H F L:List Int}{V B v:Int}{s k:Nat}{ls:List Pl}(hs:Shp s k)(z5:Pc.Pz 114 25 H V)(lH:H.length=s+1)(zF:Pc.Pz 133 133 F B)(it:Pc.It H V k F B)(zL:Pc.Pz 8 4 L v)(lL:L.length=2)(n1:L.getD 1 0≠0)(hr:AgR F B k ls)(hw:∀ w∈ls,w.1.length=s+1/\Pc.Pz (nW s (s^(k-1))) (bW s (s^(k-1))) w.1 w.2) :
  oP.run Kb [.no,.val .fl,.val (pD H V),.val (.int (k:Nat)),.val (pD L v),.val (pD F B),.val (.lst (ls.map pq)),.no,.no,.no]:=by
 obtain ⟨s2,s4,k2,k4,n16,n2,ag,_⟩:=hs.l;have hS:=hs.s;have lF:=It.len z5.fm lH (by omega) it;have ah:=Ax z5.fm it;have l2:=tF hs lH ah zF.fm hr;refine Dm ?_ ?_
 ·refine ⟨rfl,(F,B,L,v,133,133),⟨rfl,zF,zL,lL,n1,by show 3<=F.length;omega,by show F.length<=17;omega,by decide,by decide⟩,?_⟩;rintro _ ⟨F',B',rfl,zF',bF⟩;have bF:LB F B L v F' B':=bF;have zF':Pc.Pz (133+26*F.length+10) (133+8*F.length+5) F' B':=zF';have lF':F'.length=s^k+1:=by rw [bF.2.1];exact lF
  refine ⟨rfl,(F',B',s^k,k),⟨rfl,zF'.mono (by omega) (by omega),lF',n2,n16,k2,k4⟩,?_⟩;rintro _ ⟨hs',rfl,hr',_⟩;have hr':AgR F' B' k hs':=hr';refine ⟨hs',rfl,?_,?_⟩
  ·cases hs' with
   | nil=>exact aC _
   | cons a r =>
    have ha:=(hr'.1 a).mp ar;have la:a.1.length=s+1:=by
     obtain ⟨t,z⟩:=vK bF.1 lF' (by omega) ha;rcases z with ⟨l,e⟩ | z
     ·cases t6 (k:=k) (by omega) e;exact l
     ·omega
    exact tF hs la ha bF.1 hr'
  ·suffices h4:compD (ls.map pq) [.no,.val .fl,.val (pD H V),.val (.int (k:Nat)),.val (pD L v),.val (pD F B),.val (.lst (ls.map pq)),.no,.no,.no] (gNm 7) i9 (iK jb (iH (iI 7) (iH (iI 4) iJ))) (fun d'=>d' = .lst (hs'.map pq)) from h4;refine AN (fun i y=>∃ h w:Pl,ls[i]? = some h/\y=pq w/\LB h.1 h.2 L v w.1 w.2) (by rw [aa];omega) (fun i d hd=>?_) (fun ys ly hy=>?_)
   ·rw [aO] at hd;obtain ⟨h,e,rfl⟩:=ab.mp hd;obtain ⟨lh,zh⟩:=hw h (aM e);refine ⟨rfl,(h.1,h.2,L,v,1000000,900000),⟨rfl,zh.mono hS.w2 hS.w1,zL,lL,n1,by show 3<=h.1.length;omega,by show h.1.length<=17;omega,by decide,by decide⟩,?_⟩;rintro _ ⟨W,w,rfl,_,b⟩;exact ⟨h,(W,w),e,rfl,b⟩
   ·obtain ⟨ws,rfl,hb⟩:=Br (Φ:=fun i w=>∃ h:Pl,ls[i]? = some h/\LB h.1 h.2 L v w.1 w.2) fun i y h=>by
     obtain ⟨h,w,h1,h2,h3⟩:=hy i y h;exact ⟨w,h2,h,h1,h3⟩
    rw [aa,aa] at ly;cases hr'.uniq (He hs zF.fm zL.fm lL n1 bF.2.2.1 hr (fun w h=>(hw w h).1) ly hb);rfl
 ·suffices hh:oO.run Kb [.no,.val .fl,.val (pD H V),.val (.int (k:Nat)),.val (pD L v),.val (pD F B),.val (.lst (ls.map pq)),.no,.no,.no] from hh;refine xJ (p:=((k:Nat):Int)<4) (fun c=>rfl) (fun c=>?_);have k4':k=4:=by omega
  subst k4';have s2':s=2:=by
   rcases hs with ⟨a,b⟩ | ⟨a,b⟩ | ⟨a,b⟩ | ⟨a,b⟩ | ⟨a,b⟩ <;> omega
  subst s2';exact GO z5 lH (zF.mono (by decide) (by decide)) it hr hw l2
theorem C5:sA.run ⟨fun _=>False,fun d=>d = .bl true,fun _=>False,fun _=>False⟩ (.no :: .val .fl::List.replicate 8 .no):=by
 refine ⟨rfl,(),rfl,?_⟩;rintro d ⟨H,V,s,k,rfl,one,z5⟩;have one':=one;obtain ⟨hs,z,lH,hz⟩:=one';obtain ⟨s2,s4,k2,k4,n16,n2,ag,_⟩:=hs.l;refine ⟨rfl,?_⟩;refine ⟨rfl,(3,2),⟨rfl,by decide,by unfold Lt2;decide,by decide,by decide⟩,?_⟩;rintro _ ⟨L,v,rfl,zL,lL,n1⟩;refine ⟨rfl,(H,V,s,k),⟨rfl,one⟩,?_⟩;rintro _ rfl;refine ⟨rfl,(H,V,s,k,275,45),⟨rfl,z,lH,by show 1<=s;omega,by show s<=100;omega,by show k<=20;omega,hs.a1⟩,?_⟩;rintro _ ⟨F,B,rfl,it⟩;have it:Pc.It H V k F B:=it;have lF:=It.len z.fm lH (by omega) it;refine ⟨rfl,(F,B,s^k,k),⟨rfl,(hz F B it).mono (by decide) (by decide),lF,n2,n16,k2,k4⟩,?_⟩;rintro _ ⟨ls,rfl,hr,hw⟩;exact GN hs z5 lH (hz F B it) it zL lL n1 hr fun w h=>by
  obtain ⟨s',e,l,z⟩:=hw w h;cases t6 (show 1<=k by omega) e;exact ⟨l,z⟩
end Dp
namespace Dp
open PySem L2 Ch
abbrev oq:SpB:=mj
def pN:TSd:=(iP [] (iK jK (iH (iY (iH (iI 1) (iH (iI 0) iJ))) iJ)))
theorem mV:Does 2 pN oq:=by
 rintro ds Q hn ⟨⟨d1,d2,r1,r2,n1,b1,n2,b2⟩,⟨rfl,⟨ta,ba,rfl,a0,c2,l1,l2,rfl⟩,⟨tb,bb,rfl,b0,e2,l3,l4,rfl⟩,ln,m1⟩,q⟩;dsimp only at ln m1 q;refine ⟨ur,rfl,([(tb,bb),(ta,ba)],bb*ba,n1+n2+(b1+b2)),⟨rfl,?_⟩,?_⟩
 ·refine ⟨fun f hf=>?_,by show 2<=100;decide,az b0 a0,(l4.mul l2).mono (by omega),by show n1+n2+(b1+b2)<=_;omega⟩;rcases au.mp hf with z | z
  ·rw [z];exact ⟨b0,l3.mono (by omega),dI _ _⟩
  ·rw [av.mp z];exact ⟨a0,l1.mono (by omega),Int.dvd_mul_left _ _⟩
 rintro _ ⟨P,B,rfl,fm,hw,hle,_⟩;have w0:P.getD 0 0*bb=tb*B:=hw 0;have w1:P.getD 1 0*ba=ta*B:=hw 1;have hle:P.length<=2:=hle;obtain ⟨x1,x2,x3,x4,x5⟩:=MU (ta:=ta) (ba:=ba) (tb:=tb) (bb:=bb) ⟨fm,fun k=>by
  match k with
  | 0=>show P.getD 0 0*(ba*bb)=tb*ba*B;grind
  | 1=>show P.getD 1 0*(ba*bb)=ta*bb*B;grind
  | k+2 =>
   show P.getD (k+2) 0*(ba*bb)=0*B;rw [sS (by omega)];simp⟩ a0 b0 l1 l2 l3 l4
 exact q _ ⟨P,B,rfl,x1,x2,x3,x4,x5⟩
end Dp
set_option maxHeartbeats 4000000
namespace My
open PySem L2
def top (i:Nat):Stmt:=PySem.Challenge.pw_nestwright_k63_whole_again_and_again.main.body.getD i (.Pass ⟨0,0,0,0⟩)
abbrev vt:Stmt:=top 1
abbrev xw:Stmt:=top 2
abbrev B6:Stmt:=top 3
abbrev vO:Stmt:=top 4
abbrev ym:Stmt:=top 5
abbrev xt:Stmt:=top 7
abbrev uj:Stmt:=top 8
abbrev D5:Stmt:=top 9
abbrev vq:Stmt:=top 10
abbrev Ae:Stmt:=top 11
abbrev D7:Stmt:=top 12
abbrev uH:Stmt:=top 13
abbrev uh:Stmt:=top 14
abbrev D6:Stmt:=top 15
abbrev Aa:Stmt:=top 16
abbrev vn:Stmt:=top 18
abbrev vN:Stmt:=top 19
abbrev B7:Stmt:=top 20
abbrev xv:Stmt:=top 22
abbrev wI:Stmt:=top 23
abbrev wM:Stmt:=top 24
abbrev vm:Stmt:=top 25
abbrev Ab:Stmt:=top 26
abbrev Ad:Stmt:=top 27
abbrev B8:Stmt:=top 29
abbrev Hw:Stmt:=top 31
abbrev B9:Stmt:=top 32
abbrev vP:Stmt:=top 34
abbrev wH:Stmt:=top 35
abbrev vv:Stmt:=top 36
abbrev xr:Stmt:=top 38
abbrev vo:Stmt:=top 39
abbrev vC:Stmt:=top 41
abbrev vB:Stmt:=top 42
abbrev vS:Stmt:=top 43
abbrev uL:Stmt:=top 44
abbrev xu:Stmt:=top 45
abbrev yj:Stmt:=top 46
abbrev wJ:Stmt:=top 47
abbrev Ac:Stmt:=top 48
abbrev uK:Stmt:=top 49
abbrev uk:Stmt:=top 50
abbrev vR:Stmt:=top 51
abbrev ug:Stmt:=top 52
abbrev uM:Stmt:=top 53
abbrev uf:Stmt:=top 54
abbrev wL:Stmt:=top 55
abbrev vQ:Stmt:=top 56
abbrev yl:Stmt:=top 57
abbrev wK:Stmt:=top 58
abbrev vp:Stmt:=top 59
abbrev Hx:Stmt:=top 60
section
variable {P:Program}{w:World}{K:Frag}{mg:Str->Option Value}{base:Heap}
def Flow (H:Hp)(f:Addr):Prop:=∃ (l:Addr) (ns:List Int) (i c a b:Int),H f=some (.lst [.ref l,.int i,.int c,.int a,.int b])/\H l=some (.lst (ns.map V.int))/\ns.length<=63/\0<=i/\i<=(ns.length:Int)/\0<=c/\0<=a/\a<2147483647
theorem Lb {H:Hp}{f l:Addr}{ns:List Int}{x:Addr}{r:List V}(h1:H f=some (.lst (.ref x::r)))(h2:H l=some (.lst (ns.map V.int))):l≠f:=by
 refine KY h2 h1 fun z=>?_;injection z with z;cases ns with
 | nil=>cases z
 | cons n ns=>rw [eh] at z;injection z with z1;cases z1
theorem ww {H:Hp}{f l:Addr}{ns:List Int}{i c a b i' c' a' b':Int}(h1:H f=some (.lst [.ref l,.int i,.int c,.int a,.int b]))(h2:H l=some (.lst (ns.map V.int))) :
  tN H f (.lst [.ref l,.int i',.int c',.int a',.int b']) f=some (.lst [.ref l,.int i',.int c',.int a',.int b'])/\tN H f (.lst [.ref l,.int i',.int c',.int a',.int b']) l=some (.lst (ns.map V.int))/\Sm f H (tN H f (.lst [.ref l,.int i',.int c',.int a',.int b'])):=by
 refine ⟨s9,?_,fun b o n e=>?_,fun x r e=>?_⟩
 ·rw [sV (Lb h1 h2)];exact h2
 ·rw [sV n];exact e
 ·rw [h1] at e;injection e with e;injection e with e;injection e with e _;rw [← e];exact ⟨_,s9⟩
theorem Hf {ns:List Int}{i:Int}(h0:0<=i)(h:i<(ns.length:Int)):∃ z,xZ (ns.map V.int) i=some (V.int z):=by
 obtain ⟨k,rfl⟩:=dF h0;exact ⟨ns[k]'(by omega),va (by rw [aO,aq (by omega)];rfl)⟩
def xo (K:Frag):Sp:=fun vs H Q _=>∃ (a:Addr) (ns:List Int),vs=[.ref a]/\SqL K H a (ns.map V.int)/\ns.length<=63/\∀ f H',Same H H'->Flow H' f->H f=none->Q (.ref f) H'
def yO:Sp:=fun vs H Q _=>∃ (f:Addr) (m:Int),vs=[.ref f,.int m]/\Flow H f/\0<m/\Lt2 9000 m/\∀ d H',0<=d->d<m->Flow H' f->Sm f H H'->Q (.int d) H'
theorem rj:FnScope ["_law_script"] ["_law_script"] (sP vC):=⟨rfl,rfl,rfl,by decide +kernel,rfl,by decide +kernel,by decide +kernel⟩
theorem Gv {f:Addr} {fd:FuncData} (F:Fun K "_law_flow" "_law_flow" vC f fd) (B:Bl mg):FnOk P w K mg base DJ 1 f fd ["_law_script"] (xo K):=by
 refine F.ok rj (fun vs H Q E h=>?_) (fun cdv A outer s H vs Q E hr h=>?_)
 ·obtain ⟨a,ns,rfl,_⟩:=h;rfl
 obtain ⟨a,ns,rfl,hS,h63,q⟩:=h;have nd:=rj.nd;refine ⟨_,(uz (@yT _ _ _ _ (@Bi _ _ _ _ (@sZ _ _ _ _ _ (@wj _ _ _ _ _ _ _ _ _ (EV K) rfl B.list CV (@sZ _ _ _ _ _ (pv 0) pa_nil (by rfl)) (by decide) (by decide) (by rfl) (by rfl)) (@sZ _ _ _ _ _ sU (@sZ _ _ _ _ _ sU (@sZ _ _ _ _ _ sU (@sZ _ _ _ _ _ sU pa_nil (by rfl)) (by rfl)) (by rfl)) (by rfl)) (by rfl))))),?_⟩;refine ⟨_,rfl,a,_,rfl,.inl hS,fun l hl=>⟨(by show 5<=sizeLine;decide),fun p hp=>?_⟩⟩;have hpl:l≠p:=sY s9 hp;refine q p _ ((Same.new hl _).trans (Same.new hp _)) ⟨l,ns,0,0,1,0,s9,?_,h63,by decide,by omega,by decide,by decide,by decide⟩ ?_
 ·rw [sV hpl];exact s9
 ·rw [sV (Ne.symm hpl)] at hp;exact hp
theorem rl:FnScope ["_law_flow_here", "_law_many", "_law_cell", "_law_digit"] ["_law_flow_here", "_law_many"] (sP vB):=⟨rfl,rfl,rfl,by decide +kernel,rfl,by decide +kernel,by decide +kernel⟩
theorem Gu {f0:Addr} {fd:FuncData} (F:Fun K "_law_pick" "_law_pick" vB f0 fd) (B:Bl mg):FnOk P w K mg base DJ 1 f0 fd ["_law_flow_here", "_law_many"] yO:=by
 refine F.ok rl (fun vs H Q E h=>?_) (fun cdv A outer s H vs Q E hr h=>?_)
 ·obtain ⟨a,ns,rfl,_⟩:=h;rfl
 obtain ⟨f,m,rfl,hF,hm0,hm1,q⟩:=h;have nd:=rl.nd;refine ⟨_,(Ce (@Cf _ _ _ _ _ _ _ _ (PW.pt (Ej (@vU _ _ _ _ _ _ _ _ HL (@tV _ _ _ _ _ _ _ (AY K) (pv 0) sU (fun _ _=>rfl)) sU (yZ _)) (Cd (@vU _ _ _ _ _ _ _ _ HI (@tV _ _ _ _ _ _ _ (AY K) (pv 0) sU (fun _ _=>rfl)) (@xA _ _ _ _ _ _ _ _ _ (Jz K) rfl B.len BT (@sZ _ _ _ _ _ (@tV _ _ _ _ _ _ _ (AY K) (pv 0) sU (fun _ _=>rfl)) pa_nil (by rfl)) (by decide) (by decide) (by rfl) (by rfl)) (yZ _))))) (t5 (@we _ _ 2 _ _ _ _ nd rfl (by first | exact Or.inl rfl | exact Or.inr rfl) (@tV _ _ _ _ _ _ _ (AY K) (@tV _ _ _ _ _ _ _ (AY K) (pv 0) sU (fun _ _=>rfl)) (@tV _ _ _ _ _ _ _ (AY K) (pv 0) sU (fun _ _=>rfl)) (fun _ _=>rfl)) (by rfl) (by first | exact .inl rfl | exact .inr rfl | assumption))
  (t5 (@uO _ _ _ _ _ _ (@tJ _ _ _ _ _ _ _ _ uB (@tV _ _ _ _ _ _ _ (AY K) (pv 0) sU (fun _ _=>rfl)) sU) (@vF _ _ _ _ _ _ _ (pv 0) sU t4 (fun _=>rfl)) (by rfl) (by rfl) (by rfl))
  (uz (@Cf _ _ _ _ _ _ _ _ (@vU _ _ _ _ _ _ _ _ HK (pv 2) (@tJ _ _ _ _ _ _ _ _ EJ sU sU) (yZ _)) (uz (@uO _ _ _ _ _ _ (pv 2) (@vF _ _ _ _ _ _ _ (pv 0) sU t4 (fun _=>rfl)) (by rfl) (by rfl) (by rfl))) (uz (@uO _ _ _ _ _ _ (@tJ _ _ _ _ _ _ _ _ vG (@tJ _ _ _ _ _ _ _ _ uB (@tJ _ _ _ _ _ _ _ _ uB (@tJ _ _ _ _ _ _ _ _ Bm (@tV _ _ _ _ _ _ _ (AY K) (pv 0) sU (fun _ _=>rfl)) sU) (@tJ _ _ _ _ _ _ _ _ vG (pv 2) sU)) sU) sU) (@vF _ _ _ _ _ _ _ (pv 0) sU t4 (fun _=>rfl)) (by rfl) (by rfl) (by rfl))))))) pss_nil)
  (Ce (@Cf _ _ _ _ _ _ _ _ (@vU _ _ _ _ _ _ _ _ HJ (@tV _ _ _ _ _ _ _ (AY K) (pv 0) sU (fun _ _=>rfl)) sU (yZ _)) (t5 (@we _ _ 3 _ _ _ _ nd rfl (by first | exact Or.inl rfl | exact Or.inr rfl) (@tJ _ _ _ _ _ _ _ _ vG (@tV _ _ _ _ _ _ _ (AY K) (pv 0) sU (fun _ _=>rfl)) (pv 1)) (by rfl) (by first | exact .inl rfl | exact .inr rfl | assumption))
  (t5 (@uO _ _ _ _ _ _ (@tJ _ _ _ _ _ _ _ _ (@Ao _ _ hr) (@tV _ _ _ _ _ _ _ (AY K) (pv 0) sU (fun _ _=>rfl)) (pv 1)) (@vF _ _ _ _ _ _ _ (pv 0) sU t4 (fun _=>rfl)) (by rfl) (by rfl) (by rfl))
  (uz (@yT _ _ _ _ (pv 3))))) pss_nil)
  (t5 (@uO _ _ _ _ _ _ (@tJ _ _ _ _ _ _ _ _ uB (@tV _ _ _ _ _ _ _ (AY K) (pv 0) sU (fun _ _=>rfl)) sU) (@vF _ _ _ _ _ _ _ (pv 0) sU t4 (fun _=>rfl)) (by rfl) (by rfl) (by rfl))
  (t5 (@uO _ _ _ _ _ _ (@tJ _ _ _ _ _ _ _ _ vG (@tJ _ _ _ _ _ _ _ _ uB (@tJ _ _ _ _ _ _ _ _ uB (@tJ _ _ _ _ _ _ _ _ Bm (@tV _ _ _ _ _ _ _ (AY K) (pv 0) sU (fun _ _=>rfl)) sU) sU) (@tV _ _ _ _ _ _ _ (AY K) (pv 0) sU (fun _ _=>rfl))) sU) (@vF _ _ _ _ _ _ _ (pv 0) sU t4 (fun _=>rfl)) (by rfl) (by rfl) (by rfl))
  (uz (@yT _ _ _ _ (@tJ _ _ _ _ _ _ _ _ vG (@tJ _ _ _ _ _ _ _ _ Cp (@tJ _ _ _ _ _ _ _ _ vG (@tJ _ _ _ _ _ _ _ _ Bm (@tJ _ _ _ _ _ _ _ _ uB (@tJ _ _ _ _ _ _ _ _ vG (@tV _ _ _ _ _ _ _ (AY K) (pv 0) sU (fun _ _=>rfl)) sU) sU) (@tJ _ _ _ _ _ _ _ _ uB (@tJ _ _ _ _ _ _ _ _ Cp (@tV _ _ _ _ _ _ _ (AY K) (pv 0) sU (fun _ _=>rfl)) sU) sU)) sU) sU) (pv 1)))))))),?_⟩
 obtain ⟨l,ns,i,c,a,b,h1,h2,h63,i0,i1,c0,a0,a1⟩:=hF;have hf:=SqL.of (K:=K) h1;refine ⟨fun σ' H'=>(∃ o1 o2,σ'=[some (.ref f),some (.int m),o1,o2])/\Flow H' f/\Sm f H H',?_,?_⟩
 ·refine ⟨_,rfl,f,_,2,_,rfl,rfl,hf,rfl,rfl,_,rfl,?_⟩;refine GQ (fun cz=>?_) (fun cz=>?_)
  ·refine ⟨_,rfl,f,_,1,_,rfl,rfl,hf,rfl,_,rfl,f,_,0,_,rfl,rfl,hf,rfl,l,_,rfl,.inl (SqL.of h2),_,_,rfl,rfl,_,rfl,?_⟩;refine GQ (fun cl=>?_) (fun cl=>?_)
   ·have cl':i<(((ns.map V.int).length:Nat):Int):=of_decide_eq_true cl;rw [aa] at cl';obtain ⟨z,hz⟩:=Hf i0 cl';obtain ⟨g1,g2,g3⟩:=ww (i':=i+1) (c':=c) (a':=a) (b':=b) h1 h2;have gf:=SqL.of (K:=K) g1;refine ⟨_,rfl,f,_,0,_,rfl,rfl,hf,rfl,_,rfl,f,_,1,_,rfl,rfl,hf,rfl,l,_,i,_,rfl,rfl,SqL.of h2,hz,?_⟩;refine ⟨_,rfl,f,_,1,_,rfl,rfl,hf,rfl,_,_,rfl,rfl,_,rfl,f,_,1,1,rfl,rfl,h1,rfl,?_⟩;refine ⟨_,rfl,_,_,rfl,rfl,⟨by decide,by decide,by decide⟩,_,_,rfl,rfl,_,rfl,?_⟩;refine GQ (fun cg=>?_) (fun cg=>?_)
    ·have cg':(10:Int)^(18:Int).toNat<=z:=of_decide_eq_true cg;have cg2:(0:Int)<=z:=Int.le_trans (by decide) cg';obtain ⟨k1,k2,k3⟩:=ww (i':=i+1) (c':=z) (a':=a) (b':=b) g1 g2;refine ⟨_,rfl,_,rfl,f,_,2,2,rfl,rfl,g1,rfl,?_⟩;exact ⟨⟨_,_,rfl⟩,⟨l,ns,i+1,z,a,b,k1,k2,h63,by omega,by omega,cg2,a0,a1⟩,g3.trans k3⟩
    ·obtain ⟨k1,k2,k3⟩:=ww (i':=i+1) (c':=c) (a':=(a*40013+z%1000003+1)%2147483647) (b':=b) g1 g2;refine ⟨_,rfl,f,_,3,_,rfl,rfl,gf,rfl,_,_,rfl,rfl,.inr ⟨by decide,by decide⟩,_,rfl,_,_,rfl,rfl,(by show (0:Int)<_;decide),_,_,rfl,rfl,_,_,rfl,rfl,_,_,rfl,rfl,(by show (0:Int)<_;decide),_,rfl,f,_,3,3,rfl,rfl,g1,rfl,?_⟩;exact ⟨⟨_,_,rfl⟩,⟨l,ns,i+1,c,_,b,k1,k2,h63,by omega,by omega,c0,e9 _ (by decide),dS _ (by decide)⟩,g3.trans k3⟩
   ·exact ⟨⟨_,_,rfl⟩,⟨l,ns,i,c,a,b,h1,h2,h63,i0,i1,c0,a0,a1⟩,Sm.refl H⟩
  ·exact Mv ⟨⟨_,_,rfl⟩,⟨l,ns,i,c,a,b,h1,h2,h63,i0,i1,c0,a0,a1⟩,Sm.refl H⟩
 ·rintro _ H1 ⟨⟨o1,o2,rfl⟩,hF1,sm1⟩;clear hf h1 h2 i0 i1 c0 a0 a1 h63;obtain ⟨l,ns,i,c,a,b,h1,h2,h63,i0,i1,c0,a0,a1⟩:=hF1;have hf:=SqL.of (K:=K) h1;refine ⟨fun σ' H'=>σ'=[some (.ref f),some (.int m),o1,o2]/\H'=H1,?_,?_⟩
  ·refine ⟨_,rfl,f,_,2,_,rfl,rfl,hf,rfl,_,_,rfl,rfl,_,rfl,?_⟩;refine GQ (fun cz=>?_) (fun cz=>?_)
   ·obtain ⟨k1,k2,k3⟩:=ww (i':=i) (c':=c.fdiv m) (a':=a) (b':=b) h1 h2;refine ⟨_,rfl,f,_,2,_,rfl,rfl,hf,rfl,_,rfl,_,_,rfl,rfl,hm0,?_⟩;have fe:c.fdiv m=c / m:=ce _ (by omega:(0:Int)<=m);refine ⟨_,rfl,f,_,2,_,rfl,rfl,hf,rfl,_,rfl,_,_,rfl,rfl,⟨by omega,9000,hm1,by decide⟩,_,rfl,f,_,2,2,rfl,rfl,h1,rfl,?_⟩;refine ⟨_,rfl,q _ _ (e9 _ (by omega)) (dS _ hm0) ⟨l,ns,i,c.fdiv m,a,b,k1,k2,h63,i0,i1,by rw [fe];exact Int.ediv_nonneg c0 (by omega),a0,a1⟩ (sm1.trans k3)⟩
   ·exact ⟨rfl,rfl⟩
  ·rintro _ _ ⟨rfl,rfl⟩;obtain ⟨g1,g2,g3⟩:=ww (i':=i) (c':=c) (a':=a) (b':=b+1) h1 h2;have gf:=SqL.of (K:=K) g1;refine ⟨_,rfl,f,_,4,_,rfl,rfl,hf,rfl,_,_,rfl,rfl,_,rfl,f,_,4,4,rfl,rfl,h1,rfl,?_⟩;obtain ⟨k1,k2,k3⟩:=ww (i':=i) (c':=c) (a':=(a*48271+12820163+(b+1))%2147483647) (b':=b+1) g1 g2;have kf:=SqL.of (K:=K) k1;refine ⟨_,rfl,f,_,3,_,rfl,rfl,gf,rfl,_,_,rfl,rfl,.inr ⟨by decide,by decide⟩,_,_,rfl,rfl,_,rfl,f,_,4,_,rfl,rfl,gf,rfl,_,_,rfl,rfl,_,_,rfl,rfl,(by show (0:Int)<_;decide),_,rfl,f,_,3,3,rfl,rfl,g1,rfl,?_⟩;have n0:=e9 (a*48271+12820163+(b+1)) (show (2147483647:Int)≠0 by decide);have n1:=dS (a*48271+12820163+(b+1)) (show (0:Int)<2147483647 by decide);refine ⟨_,rfl,f,_,3,_,rfl,rfl,kf,rfl,_,_,rfl,rfl,(by show (0:Int)<_;decide),_,_,rfl,rfl,_,rfl,f,_,3,_,rfl,rfl,kf,rfl,_,_,rfl,rfl,⟨by decide,by decide⟩,_,_,rfl,rfl,_,_,rfl,rfl,.inl ⟨by omega,by omega⟩,_,_,rfl,rfl,(by show (0:Int)<_;decide),_,_,rfl,rfl,⟨by decide,by decide⟩,_,rfl,_,_,rfl,rfl,hm0,?_⟩;exact q _ _ (e9 _ (by omega)) (dS _ hm0) ⟨l,ns,i,c,_,b+1,k1,k2,h63,i0,i1,c0,n0,n1⟩ ((sm1.trans g3).trans k3)
theorem nA:FnScope ["one", "other"] ["one", "other"] (sP vt):=Ds.sc (by kernel_rfl) rfl rfl rfl
theorem qz:FnScope ["top", "bottom", "part"] ["top", "bottom"] (sP xw):=Ds.sc (by kernel_rfl) rfl rfl rfl
theorem sd:FnScope ["one", "other"] ["one", "other"] (sP B6):=Ds.sc (by kernel_rfl) rfl rfl rfl
theorem ot:FnScope ["one", "other"] ["one", "other"] (sP vO):=Ds.sc (by kernel_rfl) rfl rfl rfl
theorem q9:FnScope ["one", "other"] ["one", "other"] (sP ym):=Ds.sc (by kernel_rfl) rfl rfl rfl
theorem qB:FnScope ["tops", "bottom", "many", "part", "top"] ["tops", "bottom"] (sP xt):=Ds.sc (by kernel_rfl) rfl rfl rfl
theorem kD:FnScope ["some", "bottom", "r"] ["some"] (sP uj):=Ds.sc (by kernel_rfl) rfl rfl rfl
theorem sB:FnScope ["some", "tops", "bottom"] ["some"] (sP D5):=Ds.sc (by kernel_rfl) rfl rfl rfl
theorem nE:FnScope ["p", "k", "tops", "bottom"] ["p", "k"] (sP vq):=Ds.sc (by kernel_rfl) rfl rfl rfl
theorem rL:FnScope ["p"] ["p"] (sP Ae):=Ds.sc (by kernel_rfl) rfl rfl rfl
theorem sC:FnScope ["p"] ["p"] (sP D7):=Ds.sc (by kernel_rfl) rfl rfl rfl
theorem md:FnScope ["tops", "others", "longer", "shorter", "made", "k", "top"] ["tops", "others"] (sP uH):=Ds.sc (by kernel_rfl) rfl rfl rfl
theorem kE:FnScope ["tops", "others", "made", "i", "top", "k", "other"] ["tops", "others"] (sP uh):=Ds.sc (by kernel_rfl) rfl rfl rfl
theorem sD:FnScope ["p", "other", "mine", "top", "theirs"] ["p", "other"] (sP D6):=Ds.sc (by kernel_rfl) rfl rfl rfl
theorem rM:FnScope ["p", "r", "top"] ["p", "r"] (sP Aa):=Ds.sc (by kernel_rfl) rfl rfl rfl
theorem nF:FnScope ["n", "k", "made", "step"] ["n", "k"] (sP vn):=Ds.sc (by kernel_rfl) rfl rfl rfl
theorem ou:FnScope ["n", "k", "root", "nearer"] ["n", "k"] (sP vN):=Ds.sc (by kernel_rfl) rfl rfl rfl
theorem sf:FnScope ["r", "k", "top", "bottom", "over", "under"] ["r", "k"] (sP B7):=Ds.sc (by kernel_rfl) rfl rfl rfl
theorem qC:FnScope ["tops", "c", "n", "i", "top"] ["tops", "c"] (sP xv):=Ds.sc (by kernel_rfl) rfl rfl rfl
theorem pP:FnScope ["falling", "k", "s", "made", "j", "parts", "i"] ["falling", "k", "s"] (sP wI):=Ds.sc (by kernel_rfl) rfl rfl rfl
theorem pQ:FnScope ["f", "s", "n", "k", "c", "falling", "made", "rising", "m"] ["f", "s"] (sP wM):=Ds.sc (by kernel_rfl) rfl rfl rfl
theorem nH:FnScope ["tops", "n", "most", "c", "j"] ["tops"] (sP vm):=Ds.sc (by kernel_rfl) rfl rfl rfl
theorem rN:FnScope ["tops", "by", "left", "s", "many", "most", "i"] ["tops", "by"] (sP Ab):=Ds.sc (by kernel_rfl) rfl rfl rfl
theorem rO:FnScope ["f", "h", "n", "s", "c", "by", "left", "i", "top", "over", "under", "told", "digit", "tops", "m"] ["f", "h"] (sP Ad):=Ds.sc (by kernel_rfl) rfl rfl rfl
theorem sg:FnScope ["f", "s", "h", "parts", "i", "part"] ["f", "s"] (sP B8):=Ds.sc (by kernel_rfl) rfl rfl rfl
theorem sG:FnScope ["f", "g", "tops", "bottom", "inner", "under", "made", "scale", "top"] ["f", "g"] (sP Hw):=Ds.sc (by kernel_rfl) rfl rfl rfl
theorem sh:FnScope ["f", "k", "made", "step"] ["f", "k"] (sP B9):=Ds.sc (by kernel_rfl) rfl rfl rfl
theorem ox:FnScope ["s", "k", "step"] ["s", "k"] (sP vP):=Ds.sc (by kernel_rfl) rfl rfl rfl
theorem pR:FnScope ["g", "h", "a", "n", "s", "high", "low"] ["g", "h", "a"] (sP wH):=Ds.sc (by kernel_rfl) rfl rfl rfl
theorem nJ:FnScope ["f", "k", "s", "word", "g", "h", "some", "a", "one"] ["f", "k"] (sP vv):=Ds.sc (by kernel_rfl) rfl rfl rfl
theorem qE:FnScope ["a", "b"] ["a", "b"] (sP xr):=Ds.sc (by kernel_rfl) rfl rfl rfl
theorem nK:FnScope ["l", "a", "b"] ["l"] (sP vo):=Ds.sc (by kernel_rfl) rfl rfl rfl
theorem oy:FnScope ["_law_a", "_law_b"] ["_law_a", "_law_b"] (sP vS):=Ds.sc (by kernel_rfl) rfl rfl rfl
theorem mX:FnScope ["_law_top", "_law_bottom", "_law_part"] ["_law_top", "_law_bottom"] (sP uL):=Ds.sc (by kernel_rfl) rfl rfl rfl
theorem qF:FnScope ["_law_tops", "_law_bottom", "_law_part", "_law_top"] ["_law_tops", "_law_bottom"] (sP xu):=Ds.sc (by kernel_rfl) rfl rfl rfl
theorem rc:FnScope ["_law_p", "_law_q", "_law_many", "_law_found", "_law_k", "_law_top"] ["_law_p", "_law_q"] (sP yj):=Ds.sc (by kernel_rfl) rfl rfl rfl
theorem pS:FnScope ["_law_p", "_law_q", "_law_found", "_law_k", "_law_top", "_law_j", "_law_other"] ["_law_p", "_law_q"] (sP wJ):=Ds.sc (by kernel_rfl) rfl rfl rfl
theorem rP:FnScope ["_law_p", "_law_q", "_law_found", "_law_top"] ["_law_p", "_law_q"] (sP Ac):=Ds.sc (by kernel_rfl) rfl rfl rfl
theorem mY:FnScope ["_law_a", "_law_b"] ["_law_a", "_law_b"] (sP uK):=Ds.sc (by kernel_rfl) rfl rfl rfl
theorem kF:FnScope ["_law_l", "_law_b", "_law_a", "_law_sign"] ["_law_l"] (sP uk):=Ds.sc (by kernel_rfl) rfl rfl rfl
theorem oz:FnScope ["_law_flow_here", "_law_most"] ["_law_flow_here", "_law_most"] (sP vR):=Ds.sc (by kernel_rfl) rfl rfl rfl
theorem ko:FnScope ["_law_flow_here", "_law_most"] ["_law_flow_here", "_law_most"] (sP ug):=Ds.sc (by kernel_rfl) rfl rfl rfl
theorem mZ:FnScope ["_law_flow_here", "_law_many", "_law_most", "_law_tops", "_law_k", "_law_first"] ["_law_flow_here", "_law_many", "_law_most"] (sP uM):=Ds.sc (by kernel_rfl) rfl rfl rfl
theorem kq:FnScope ["_law_flow_here", "_law_most", "_law_first"] ["_law_flow_here", "_law_most"] (sP uf):=Ds.sc (by kernel_rfl) rfl rfl rfl
theorem pT:FnScope ["_law_h", "_law_k", "_law_found", "_law_turn"] ["_law_h", "_law_k"] (sP wL):=Ds.sc (by kernel_rfl) rfl rfl rfl
theorem oB:FnScope ["_law_p", "_law_top"] ["_law_p"] (sP vQ):=Ds.sc (by kernel_rfl) rfl rfl rfl
theorem re:FnScope ["_law_flow_here", "_law_d", "_law_k", "_law_h", "_law_j", "_law_top", "_law_l"] ["_law_flow_here"] (sP yl):=Ds.sc (by kernel_rfl) rfl rfl rfl
theorem pV:FnScope ["_law_h", "_law_k", "_law_f", "_law_found", "_law_one_here", "_law_leads"] ["_law_h", "_law_k"] (sP wK):=Ds.sc (by kernel_rfl) rfl rfl rfl
theorem nL:FnScope ["_law_h", "_law_l"] ["_law_h", "_law_l"] (sP vp):=Ds.sc (by kernel_rfl) rfl rfl rfl
theorem sH:FnScope ["_law_script", "_law_flow_here", "_law_h", "_law_k", "_law_l", "_law_f", "_law_found", "_law_one_here", "_law_halves", "_law_quarters"] ["_law_script"] (sP Hx):=Ds.sc (by kernel_rfl) rfl rfl rfl
end
theorem J2 {l:PySem.W.OpenLaw} {w:World} {K:Frag} {h:Heap} {mg:Str->Option Value} {fa:Addr} {f1 f2 f3 f4 f5 f6 f7 f8 f9 f10 f11 f12 f13 f14 f15 f16 f17 f18 f19 f20 f21 f22 f23 f24 f25 f26 f27 f28 f29 f30 f31 f32 f33 f34 f35 f36 f37 f38 f39 f40 f41 f42 f43 f44 f45 f46 f47 f48 f49 f50 f51 f52:Addr} (X:K.In h) (G:h.Ns mainGlobals mg) (hfa:mg "law" = some (.ref fa))
  (h1:Ds.Sl K f1 "common_part" vt)
  (h2:Ds.Sl K f2 "fraction" xw)
  (h3:Ds.Sl K f3 "taken" B6)
  (h4:Ds.Sl K f4 "multiplied" vO)
  (h5:Ds.Sl K f5 "divided" ym)
  (h6:Ds.Sl K f6 "one_form" xt)
  (h7:Ds.Sl K f7 "over_one_bottom" uj)
  (h8:Ds.Sl K f8 "poly" D5)
  (h9:Ds.Sl K f9 "fraction_at" vq)
  (h10:Ds.Sl K f10 "degree" Ae)
  (h11:Ds.Sl K f11 "lead" D7)
  (h12:Ds.Sl K f12 "tops_together" uH)
  (h13:Ds.Sl K f13 "tops_multiplied" uh)
  (h14:Ds.Sl K f14 "plus" D6)
  (h15:Ds.Sl K f15 "scaled" Aa)
  (h16:Ds.Sl K f16 "whole_power" vn)
  (h17:Ds.Sl K f17 "whole_root" vN)
  (h18:Ds.Sl K f18 "roots" B7)
  (h19:Ds.Sl K f19 "in_steps" xv)
  (h20:Ds.Sl K f20 "root_tops" wI)
  (h21:Ds.Sl K f21 "candidate" wM)
  (h22:Ds.Sl K f22 "whole_steps" vm)
  (h23:Ds.Sl K f23 "parted" Ab)
  (h24:Ds.Sl K f24 "digits" Ad)
  (h25:Ds.Sl K f25 "apart" B8)
  (h26:Ds.Sl K f26 "put" Hw)
  (h27:Ds.Sl K f27 "again" B9)
  (h28:Ds.Sl K f28 "lead_power" vP)
  (h29:Ds.Sl K f29 "with_lead" wH)
  (h30:Ds.Sl K f30 "again_roots" vv)
  (h31:Ds.Sl K f31 "straight" xr)
  (h32:Ds.Sl K f32 "turned_back" vo)
  (h33:Ds.Sl K f33 "_law_flow" vC)
  (h34:Ds.Sl K f34 "_law_pick" vB)
  (h35:Ds.Sl K f35 "_law_common" vS)
  (h36:Ds.Sl K f36 "_law_fraction" uL)
  (h37:Ds.Sl K f37 "_law_poly" xu)
  (h38:Ds.Sl K f38 "_law_sum" yj)
  (h39:Ds.Sl K f39 "_law_times" wJ)
  (h40:Ds.Sl K f40 "_law_of" Ac)
  (h41:Ds.Sl K f41 "_law_straight" uK)
  (h42:Ds.Sl K f42 "_law_turned_back" uk)
  (h43:Ds.Sl K f43 "_law_number" vR)
  (h44:Ds.Sl K f44 "_law_any_fraction" ug)
  (h45:Ds.Sl K f45 "_law_any_poly" uM)
  (h46:Ds.Sl K f46 "_law_any_straight" uf)
  (h47:Ds.Sl K f47 "_law_again" wL)
  (h48:Ds.Sl K f48 "_law_within" vQ)
  (h49:Ds.Sl K f49 "_law_one" yl)
  (h50:Ds.Sl K f50 "_law_right" wK)
  (h51:Ds.Sl K f51 "_law_between" vp)
  (h52:Ds.Sl K f52 "law" Hx)
  (z_len:PySem.W.nsIn K mainGlobals "len" = some none)
  (z_range:PySem.W.nsIn K mainGlobals "range" = some none)
  (z_all:PySem.W.nsIn K mainGlobals "all" = some none)
  (z_any:PySem.W.nsIn K mainGlobals "any" = some none)
  (z_abs:PySem.W.nsIn K mainGlobals "abs" = some none)
  (z_int:PySem.W.nsIn K mainGlobals "int" = some none)
  (z_bool:PySem.W.nsIn K mainGlobals "bool" = some none)
  (z_str:PySem.W.nsIn K mainGlobals "str" = some none)
  (z_list:PySem.W.nsIn K mainGlobals "list" = some none)
  (z_tuple:PySem.W.nsIn K mainGlobals "tuple" = some none)
  (z_dict:PySem.W.nsIn K mainGlobals "dict" = some none)
  (z_isinstance:PySem.W.nsIn K mainGlobals "isinstance" = some none)
  (z_enumerate:PySem.W.nsIn K mainGlobals "enumerate" = some none)
  (z_reversed:PySem.W.nsIn K mainGlobals "reversed" = some none)
  (z_sorted:PySem.W.nsIn K mainGlobals "sorted" = some none)
  (z_max:PySem.W.nsIn K mainGlobals "max" = some none)
  (z_min:PySem.W.nsIn K mainGlobals "min" = some none)
  (z_sum:PySem.W.nsIn K mainGlobals "sum" = some none)
  (z_zip:PySem.W.nsIn K mainGlobals "zip" = some none)
  : ∃ fd:FuncData,(∀ (s:Shared) (v:Value),BindsTo s fd ⟨[v],[]⟩ [("_law_script",v)])/\∀ base:Heap,K.In base->base.Ns mainGlobals mg->FnOk l.prog w K mg base DJ 9 fa fd ["_law_script"] (Dp.B5 K):=by
 have B:Bl mg:=⟨PySem.W.mg_none_of X G z_len,PySem.W.mg_none_of X G z_range,PySem.W.mg_none_of X G z_all,PySem.W.mg_none_of X G z_any,PySem.W.mg_none_of X G z_abs,PySem.W.mg_none_of X G z_int,PySem.W.mg_none_of X G z_bool,PySem.W.mg_none_of X G z_str,PySem.W.mg_none_of X G z_list,PySem.W.mg_none_of X G z_tuple,PySem.W.mg_none_of X G z_dict,PySem.W.mg_none_of X G z_isinstance,PySem.W.mg_none_of X G z_enumerate,PySem.W.mg_none_of X G z_reversed,PySem.W.mg_none_of X G z_sorted,PySem.W.mg_none_of X G z_max,PySem.W.mg_none_of X G z_min,PySem.W.mg_none_of X G z_sum,PySem.W.mg_none_of X G z_zip⟩;have W:Ds.Mg K mg:=fun _ _ a=>PySem.W.mg_of X G a;obtain ⟨a,fd,F⟩:=h52;cases hfa.symm.trans (W _ _ a);refine ⟨fd,?_,fun base _ _=>?_⟩
 ·obtain ⟨oc,od,kV,doc,pm,an,cdv,ct,osl,rfl,lk,hcd⟩:=F.ex;exact fun s v=>.of_eq rfl
 have gf:Def l.prog w K mg base "_law_flow" 1 ["_law_script"] (xo K):=by
  obtain ⟨a,fd,F⟩:=h33;exact .of F (W _ _ a) (F.binds (Ds.b1 fun _ _ _ _ _ _ _=>rfl)) (Gv F B)
 have gp:Def l.prog w K mg base "_law_pick" 1 ["_law_flow_here", "_law_many"] (Dp.BY K Dp.iN.n Dp.iN.run):=by
  obtain ⟨a,fd,F⟩:=h34;exact Dp.C9 (.of F (W _ _ a) (F.binds (Ds.b2 fun _ _ _ _ _ _ _ _=>rfl)) (Gu F B))
 have G0:=Ds.uc gp Ds.Nt;have G1:=Ds.uc (Ds.ue 0 Ds.o0 h1 W B nA rfl G0 Ds.ud (Ds.b2 fun _ _ _ _ _ _ _ _=>rfl) (by kernel_rfl) Dp.kZ) G0;have G10:=Ds.uc (Ds.ue 0 Ds.o0 h10 W B rL rfl G1 Ds.ud (Ds.b1 fun _ _ _ _ _ _ _=>rfl) (by kernel_rfl) Dp.qg) G1;have G12:=Ds.uc (Ds.ue 0 ([(51,[4])],[48],[4]) h12 W B md rfl G10 Ds.ud (Ds.b2 fun _ _ _ _ _ _ _ _=>rfl) (by kernel_rfl) Dp.kA) G10;have G13:=Ds.uc (Ds.ue 0 ([(59,[2])],[55],[2]) h13 W B kE rfl G12 Ds.ud (Ds.b2 fun _ _ _ _ _ _ _ _=>rfl) (by kernel_rfl) Dp.j5) G12;have G16:=Ds.uc (Ds.ue 0 Ds.o0 h16 W B nF rfl G13 Ds.ud (Ds.b2 fun _ _ _ _ _ _ _ _=>rfl) (by kernel_rfl) Dp.lE) G13;have G20:=Ds.uc (Ds.ue 0 ([(102,[3])],[98],[3]) h20 W B pP rfl G16 Ds.ud (Ds.b3 fun _ _ _ _ _ _ _ _ _=>rfl) (by kernel_rfl) Dp.nh) G16;have G23:=Ds.uc (Ds.ue 0 ([(125,[2,4])],[118,119],[2,4]) h23 W B rN rfl G20 Ds.ud (Ds.b2 fun _ _ _ _ _ _ _ _=>rfl) (by kernel_rfl) Dp.oa) G20;have G35:=Ds.uc (Ds.ue 0 Ds.o0 h35 W B oy rfl G23 Ds.ud (Ds.b2 fun _ _ _ _ _ _ _ _=>rfl) (by kernel_rfl) Dp.mw) G23;have G48:=Ds.uc (Ds.ue 0 Ds.o0 h48 W B oB rfl G35 Ds.ud (Ds.b1 fun _ _ _ _ _ _ _=>rfl) (by kernel_rfl) Dp.mE) G35;have G2:=Ds.uc (Ds.ue 1 Ds.o0 h2 W B qz rfl G48 Ds.ud (Ds.b2 fun _ _ _ _ _ _ _ _=>rfl) (by kernel_rfl) Dp.n6) G48;have G6:=Ds.uc (Ds.ue 1 Ds.o0 h6 W B qB rfl G2 Ds.ud (Ds.b2 fun _ _ _ _ _ _ _ _=>rfl) (by kernel_rfl) Dp.nT) G2;have G7:=Ds.uc (Ds.ue 1 Ds.o0 h7 W B kD rfl G6 Ds.ud (Ds.b1 fun _ _ _ _ _ _ _=>rfl) (by kernel_rfl) Dp.jQ) G6;have G17:=Ds.uc (Ds.ue 1 Ds.o0 h17 W B ou rfl G7 Ds.ud (Ds.b2 fun _ _ _ _ _ _ _ _=>rfl) (by kernel_rfl) Dp.mN) G7;have G19:=Ds.uc (Ds.ue 1 Ds.o0 h19 W B qC rfl G17 Ds.ud (Ds.b2 fun _ _ _ _ _ _ _ _=>rfl) (by kernel_rfl) Dp.nV) G17;have G22:=Ds.uc (Ds.ue 1 Ds.o0 h22 W B nH rfl G19 Ds.ud (Ds.b1 fun _ _ _ _ _ _ _=>rfl) (by kernel_rfl) Dp.kB) G19;have G28:=Ds.uc (Ds.ue 1 Ds.o0 h28 W B ox rfl G22 Ds.ud (Ds.b2 fun _ _ _ _ _ _ _ _=>rfl) (by kernel_rfl) Dp.mO) G22;have G36:=Ds.uc (Ds.ue 1 Ds.o0 h36 W B mX rfl G28 Ds.ud (Ds.b2 fun _ _ _ _ _ _ _ _=>rfl) (by kernel_rfl) Dp.kI) G28;have G37:=Ds.uc (Ds.ue 1 ([(213,[0]),(217,[0]),(219,[0])],[213],[0]) h37 W B qF rfl G36 Ds.ud (Ds.b2 fun _ _ _ _ _ _ _ _=>rfl) (by kernel_rfl) Dp.nP) G36;have G43:=Ds.uc (Ds.ue 1 Ds.o0 h43 W B oz rfl G37 Ds.ud (Ds.b2 fun _ _ _ _ _ _ _ _=>rfl) (by kernel_rfl) Dp.mB) G37;have G3:=Ds.uc (Ds.ue 2 Ds.o0 h3 W B sd rfl G43 Ds.ud (Ds.b2 fun _ _ _ _ _ _ _ _=>rfl) (by kernel_rfl) Dp.qV) G43;have G4:=Ds.uc (Ds.ue 2 Ds.o0 h4 W B ot rfl G3 Ds.ud (Ds.b2 fun _ _ _ _ _ _ _ _=>rfl) (by kernel_rfl) Dp.mK) G3;have G5:=Ds.uc (Ds.ue 2 Ds.o0 h5 W B q9 rfl G4 Ds.ud (Ds.b2 fun _ _ _ _ _ _ _ _=>rfl) (by kernel_rfl) Dp.pg) G4;have G8:=Ds.uc (Ds.ue 2 Ds.o0 h8 W B sB rfl G5 Ds.ud (Ds.b1 fun _ _ _ _ _ _ _=>rfl) (by kernel_rfl) Dp.qo) G5;have G9:=Ds.uc (Ds.ue 2 Ds.o0 h9 W B nE rfl G8 Ds.ud (Ds.b2 fun _ _ _ _ _ _ _ _=>rfl) (by kernel_rfl) Dp.lI) G8;have G14:=Ds.uc (Ds.ue 2 Ds.o0 h14 W B sD rfl G9 Ds.ud (Ds.b2 fun _ _ _ _ _ _ _ _=>rfl) (by kernel_rfl) Dp.rC) G9;have G15:=Ds.uc (Ds.ue 2 Ds.o0 h15 W B rM rfl G14 Ds.ud (Ds.b2 fun _ _ _ _ _ _ _ _=>rfl) (by kernel_rfl) Dp.qm) G14;have G18:=Ds.uc (Ds.ue 2 Ds.o0 h18 W B sf rfl G15 Ds.ud (Ds.b2 fun _ _ _ _ _ _ _ _=>rfl) (by kernel_rfl) Dp.qY) G15;have G21:=Ds.uc (Ds.ue 2 Ds.o0 h21 W B pQ rfl G18 Ds.ud (Ds.b2 fun _ _ _ _ _ _ _ _=>rfl) (by kernel_rfl) Dp.lQ) G18;have G26:=Ds.uc (Ds.ue 2 Ds.o0 h26 W B sG rfl G21 Ds.ud (Ds.b2 fun _ _ _ _ _ _ _ _=>rfl) (by kernel_rfl) Dp.r9) G21;have G38:=Ds.uc (Ds.ue 2 ([(227,[3])],[222],[3]) h38 W B rc rfl G26 Ds.ud (Ds.b2 fun _ _ _ _ _ _ _ _=>rfl) (by kernel_rfl) Dp.oW) G26;have G39:=Ds.uc (Ds.ue 2 ([(233,[2])],[229],[2]) h39 W B pS rfl G38 Ds.ud (Ds.b2 fun _ _ _ _ _ _ _ _=>rfl) (by kernel_rfl) Dp.m8) G38;have G41:=Ds.uc (Ds.ue 2 Ds.o0 h41 W B mY rfl G39 Ds.ud (Ds.b2 fun _ _ _ _ _ _ _ _=>rfl) (by kernel_rfl) Dp.kM) G39;have G42:=Ds.uc (Ds.ue 2 Ds.o0 h42 W B kF rfl G41 Ds.ud (Ds.b1 fun _ _ _ _ _ _ _=>rfl) (by kernel_rfl) Dp.j7) G41;have G44:=Ds.uc (Ds.ue 2 Ds.o0 h44 W B ko rfl G42 Ds.ud (Ds.b2 fun _ _ _ _ _ _ _ _=>rfl) (by kernel_rfl) Dp.jV) G42;have G45:=Ds.uc (Ds.ue 2 Ds.o0 h45 W B mZ rfl G44 Ds.ud (Ds.b3 fun _ _ _ _ _ _ _ _ _=>rfl) (by kernel_rfl) Dp.kL) G44;have G11:=Ds.uc (Ds.ue 3 Ds.o0 h11 W B sC rfl G45 Ds.ud (Ds.b1 fun _ _ _ _ _ _ _=>rfl) (by kernel_rfl) Dp.rB) G45;have G27:=Ds.uc (Ds.ue 3 Ds.o0 h27 W B sh rfl G11 Ds.ud (Ds.b2 fun _ _ _ _ _ _ _ _=>rfl) (by kernel_rfl) Dp.q8) G11;have G31:=Ds.uc (Ds.ue 3 Ds.o0 h31 W B qE rfl G27 Ds.ud (Ds.b2 fun _ _ _ _ _ _ _ _=>rfl) (by kernel_rfl) Dp.mV) G27;have G40:=Ds.uc (Ds.ue 3 Ds.o0 h40 W B rP rfl G31 Ds.ud (Ds.b2 fun _ _ _ _ _ _ _ _=>rfl) (by kernel_rfl) Dp.p9) G31;have G46:=Ds.uc (Ds.ue 3 Ds.o0 h46 W B kq rfl G40 Ds.ud (Ds.b2 fun _ _ _ _ _ _ _ _=>rfl) (by kernel_rfl) Dp.jW) G40;have G24:=Ds.uc (Ds.ue 4 ([(139,[11])],[134],[11]) h24 W B rO rfl G46 Ds.ud (Ds.b2 fun _ _ _ _ _ _ _ _=>rfl) (by kernel_rfl) Dp.oe) G46;have G29:=Ds.uc (Ds.ue 4 Ds.o0 h29 W B pR rfl G24 Ds.ud (Ds.b3 fun _ _ _ _ _ _ _ _ _=>rfl) (by kernel_rfl) Dp.nr) G24;have G32:=Ds.uc (Ds.ue 4 Ds.o0 h32 W B nK rfl G29 Ds.ud (Ds.b1 fun _ _ _ _ _ _ _=>rfl) (by kernel_rfl) Dp.lJ) G29;have G47:=Ds.uc (Ds.ue 4 Ds.o0 h47 W B pT rfl G32 Ds.ud (Ds.b2 fun _ _ _ _ _ _ _ _=>rfl) (by kernel_rfl) Dp.nt) G32;have G25:=Ds.uc (Ds.ue 5 Ds.o0 h25 W B sg rfl G47 Ds.ud (Ds.b2 fun _ _ _ _ _ _ _ _=>rfl) (by kernel_rfl) Dp.pK) G47;have G49:=Ds.uc (Ds.ue 5 Ds.o0 h49 W B re rfl G25 Ds.ud (Ds.b1 fun _ _ _ _ _ _ _=>rfl) (by kernel_rfl) Dp.pM) G25;have G51:=Ds.uc (Ds.ue 5 Ds.o0 h51 W B nL rfl G49 Ds.ud (Ds.b2 fun _ _ _ _ _ _ _ _=>rfl) (by kernel_rfl) Dp.kC) G49;have G30:=Ds.uc (Ds.ue 6 Ds.o0 h30 W B nJ rfl G51 Ds.ud (Ds.b2 fun _ _ _ _ _ _ _ _=>rfl) (by kernel_rfl) Dp.lV) G51;have G50:=Ds.uc (Ds.ue 7 Ds.o0 h50 W B pV rfl G30 Ds.ud (Ds.b2 fun _ _ _ _ _ _ _ _=>rfl) (by kernel_rfl) Dp.lY) G30;exact Ds.Ju (n:=40) (k:=8) (gc:=[]) (fz:=[(300,[9])]) (own:=[297]) (mu:=[9]) F B sH gf G50 Ds.ud rfl (by decide) (by first | exact Or.inl rfl | exact Or.inr rfl) (by first | exact Or.inl rfl | exact Or.inr rfl) rfl (by kernel_rfl) Dp.C5
theorem walk {l:PySem.W.OpenLaw}{q:Program}{loose:List Str}{XP:(Str->Option Value)->Heap->Prop}{YP:World->Heap->Prop}{d:DefRec}{K:Params->Frag}(hn:l.most=some 63)(hdf:d.params.defaults=[])
  (hY:∀ (w:World) (h:Heap),YP w h->(K w.params).In h)
  (F:∀ (w:World) (mg:Str->Option Value) (fa:Addr) (h:Heap),(K w.params).In h->h.Ns mainGlobals mg->mg d.name=some (.ref fa) ->
   ∃ fd:FuncData,(∀ (s:Shared) (u:Value),BindsTo s fd ⟨[u],[]⟩ [("_law_script",u)])/\∀ base:Heap,(K w.params).In base->base.Ns mainGlobals mg->FnOk l.prog w (K w.params) mg base DJ 9 fa fd ["_law_script"] (Dp.B5 (K w.params))) (hi:PyProof.Rows.importsNone q=true) (ht:l.prog.given.tree=none) :
  PySem.W.WalkO q loose XP YP l.row.toRowW d [] (fun f vs=>PySem.call f vs) :=
 L2.FU (n:=63) (k:=9) (x := "_law_script") (CX:=fun _=>DJ) (sp:=fun w=>Dp.B5 (K w.params)) hn (by decide) hdf ⟨rfl,by decide,by decide⟩ hY F (fun _ _ a ns hl _ hS=>⟨a,ns,rfl,hS,hl,fun _=>rfl⟩) (fun _ _ _ _ _ z=>z) hi ht
end My
def PySem.W.Fast.tw8358031203208585948:Unit:=()
def PySem.W.Fast.tw9043317043843709486:Unit:=()
def PySem.W.Fast.tw5044788485097856541:Unit:=()
def PySem.W.Fast.tw16488376995612278572:Unit:=()
def PySem.W.Fast.tw12048817414288829492:Unit:=()
def PySem.W.Fast.tw4025033369347874084:Unit:=()
def PySem.W.Fast.tw7716789883916787865:Unit:=()
def PySem.W.Fast.tw4681347967305310781:Unit:=()
def PySem.W.Fast.tw15854576041023893437:Unit:=()
def PySem.W.Fast.tw4312385613712862064:Unit:=()
def PySem.W.Fast.tw9727566245212294460:Unit:=()
def PySem.W.Fast.tw5966104185716189837:Unit:=()
def PySem.W.Fast.tw18402604727301839072:Unit:=()
def PySem.W.Fast.tw5363720952275549751:Unit:=()
def PySem.W.Fast.tw18013222774738252298:Unit:=()
def PySem.W.Fast.tw1030830989500778484:Unit:=()
def PySem.W.Fast.tw15149142763723996961:Unit:=()
def PySem.W.Fast.tw17397513669088464794:Unit:=()
def PySem.W.Fast.tw8045120495816843733:Unit:=()
def PySem.W.Fast.tw17211170319143432864:Unit:=()
def PySem.W.Fast.tw11924494691670347830:Unit:=()
def PySem.W.Fast.tw11340227937056755829:Unit:=()
def PySem.W.Fast.tw14923336183211714298:Unit:=()
def PySem.W.Fast.tw13260628641101553007:Unit:=()
def PySem.W.Fast.tw1651647985968151533:Unit:=()
def PySem.W.Fast.tw13939213540824451319:Unit:=()
def PySem.W.Fast.tw6695763417659414513:Unit:=()
def PySem.W.Fast.tw13546363887603937045:Unit:=()
def PySem.W.Fast.tw18056232115115013991:Unit:=()
def PySem.W.Fast.tw14761700730785804467:Unit:=()
def PySem.W.Fast.tw8310912716567408531:Unit:=()
def PySem.W.Fast.tw2396700041546101812:Unit:=()
def PySem.W.Fast.tw15631632325929481600:Unit:=()
def PySem.W.Fast.tw12212627008054606264:Unit:=()
def PySem.W.Fast.tw13220057238602774996:Unit:=()
def PySem.W.Fast.tw7035662714092762446:Unit:=()
def PySem.W.Fast.tw6586371781227521413:Unit:=()
def PySem.W.Fast.tw2767445946338368223:Unit:=()
def PySem.W.Fast.tw5356686951016221081:Unit:=()
def PySem.W.Fast.tw689409461773717569:Unit:=()
def PySem.W.Fast.tw10663698978900378715:Unit:=()
def PySem.W.Fast.tw18061034799721879655:Unit:=()
def PySem.W.Fast.tw9461002136334482784:Unit:=()
def PySem.W.Fast.tw16361163248486446626:Unit:=()
def PySem.W.Fast.tw17778553755232909195:Unit:=()
def PySem.W.Fast.tw249610816972202240:Unit:=()
def PySem.W.Fast.tw12521192307042113402:Unit:=()
def PySem.W.Fast.tw8165032944301094434:Unit:=()
def PySem.W.Fast.tw9629930252283024537:Unit:=()
def PySem.W.Fast.tw16239906409971624246:Unit:=()
def PySem.W.Fast.tw10605495063518431265:Unit:=()
def PySem.W.Fast.tw3167867144851023177:Unit:=()
def PySem.W.Fast.tw17358737762832576271:Unit:=()
def PySem.W.Fast.tw2777758268596808172:Unit:=()
def PySem.W.Fast.tw989763298112372402:Unit:=()
def PySem.W.Fast.tw8768835975846377749:Unit:=()
def PySem.W.Fast.tw10738391367837868670:Unit:=()
def PySem.W.Fast.tw355415541761402340:Unit:=()
def PySem.W.Fast.tw10500140401006240161:Unit:=()
def PySem.W.Fast.tw14825049478802358928:Unit:=()
def PySem.W.Fast.tw4575345419136690130:Unit:=()
def PySem.W.Fast.tw12662450303705854259:Unit:=()
def PySem.W.Fast.tw12546836318002010615:Unit:=()
def PySem.W.Fast.tw9791723526313006867:Unit:=()
def PySem.W.Fast.tw10926288165111109317:Unit:=()
def PySem.W.Fast.tw12624352941987856982:Unit:=()
def PySem.W.Fast.tw1346824415217388206:Unit:=()
def PySem.W.Fast.tw15436099764105815811:Unit:=()
open PySem PySem.W PyProof.Rows
set_option maxRecDepth 100000 in
set_option maxHeartbeats 0 in
theorem PySem.Challenge.cw_nestwright_k63_whole_again_and_again_holds : PySem.Challenge.rw_nestwright_k63_whole_again_and_again.Holds := by
 w_on;o_law;k_head;(case hw=>w_witness2)
 k_fill
 refine My.walk (l:=PySem.Challenge.rw_nestwright_k63_whole_again_and_again) rfl rfl (fun w h Y=>PySem.W.kIn_of Y) ?F ?hi rfl
 (case hi=>kernel_rfl)
 case F =>
  intro w mg fa h KX G hmg;refine' My.J2 KX G hmg (Ds.sl ?a1 ?l1 ?c1 ?k1) (Ds.sl ?a2 ?l2 ?c2 ?k2) (Ds.sl ?a3 ?l3 ?c3 ?k3) (Ds.sl ?a4 ?l4 ?c4 ?k4) (Ds.sl ?a5 ?l5 ?c5 ?k5) (Ds.sl ?a6 ?l6 ?c6 ?k6) (Ds.sl ?a7 ?l7 ?c7 ?k7) (Ds.sl ?a8 ?l8 ?c8 ?k8) (Ds.sl ?a9 ?l9 ?c9 ?k9) (Ds.sl ?a10 ?l10 ?c10 ?k10) (Ds.sl ?a11 ?l11 ?c11 ?k11) (Ds.sl ?a12 ?l12 ?c12 ?k12) (Ds.sl ?a13 ?l13 ?c13 ?k13) (Ds.sl ?a14 ?l14 ?c14 ?k14) (Ds.sl ?a15 ?l15 ?c15 ?k15) (Ds.sl ?a16 ?l16 ?c16 ?k16) (Ds.sl ?a17 ?l17 ?c17 ?k17) (Ds.sl ?a18 ?l18 ?c18 ?k18) (Ds.sl ?a19 ?l19 ?c19 ?k19) (Ds.sl ?a20 ?l20 ?c20 ?k20) (Ds.sl ?a21 ?l21 ?c21 ?k21) (Ds.sl ?a22 ?l22 ?c22 ?k22) (Ds.sl ?a23 ?l23 ?c23 ?k23) (Ds.sl ?a24 ?l24 ?c24 ?k24) (Ds.sl ?a25 ?l25 ?c25 ?k25) (Ds.sl ?a26 ?l26 ?c26 ?k26) (Ds.sl ?a27 ?l27 ?c27 ?k27) (Ds.sl ?a28 ?l28 ?c28 ?k28) (Ds.sl ?a29 ?l29 ?c29 ?k29) (Ds.sl ?a30 ?l30 ?c30 ?k30) (Ds.sl ?a31 ?l31 ?c31 ?k31) (Ds.sl ?a32 ?l32 ?c32 ?k32) (Ds.sl ?a33 ?l33 ?c33 ?k33) (Ds.sl ?a34 ?l34 ?c34 ?k34) (Ds.sl ?a35 ?l35 ?c35 ?k35) (Ds.sl ?a36 ?l36 ?c36 ?k36) (Ds.sl ?a37 ?l37 ?c37 ?k37) (Ds.sl ?a38 ?l38 ?c38 ?k38) (Ds.sl ?a39 ?l39 ?c39 ?k39) (Ds.sl ?a40 ?l40 ?c40 ?k40) (Ds.sl ?a41 ?l41 ?c41 ?k41) (Ds.sl ?a42 ?l42 ?c42 ?k42) (Ds.sl ?a43 ?l43 ?c43 ?k43) (Ds.sl ?a44 ?l44 ?c44 ?k44) (Ds.sl ?a45 ?l45 ?c45 ?k45) (Ds.sl ?a46 ?l46 ?c46 ?k46) (Ds.sl ?a47 ?l47 ?c47 ?k47) (Ds.sl ?a48 ?l48 ?c48 ?k48) (Ds.sl ?a49 ?l49 ?c49 ?k49) (Ds.sl ?a50 ?l50 ?c50 ?k50) (Ds.sl ?a51 ?l51 ?c51 ?k51) (Ds.sl ?a52 ?l52 ?c52 ?k52) ?z_len ?z_range ?z_all ?z_any ?z_abs ?z_int ?z_bool ?z_str ?z_list ?z_tuple ?z_dict ?z_isinstance ?z_enumerate ?z_reversed ?z_sorted ?z_max ?z_min ?z_sum ?z_zip
  (case a1=>k_is);(case l1=>k_is);(case c1=>k_is);(case k1=>k_is)
  (case a2=>k_is);(case l2=>k_is);(case c2=>k_is);(case k2=>k_is)
  (case a3=>k_is);(case l3=>k_is);(case c3=>k_is);(case k3=>k_is)
  (case a4=>k_is);(case l4=>k_is);(case c4=>k_is);(case k4=>k_is)
  (case a5=>k_is);(case l5=>k_is);(case c5=>k_is);(case k5=>k_is)
  (case a6=>k_is);(case l6=>k_is);(case c6=>k_is);(case k6=>k_is)
  (case a7=>k_is);(case l7=>k_is);(case c7=>k_is);(case k7=>k_is)
  (case a8=>k_is);(case l8=>k_is);(case c8=>k_is);(case k8=>k_is)
  (case a9=>k_is);(case l9=>k_is);(case c9=>k_is);(case k9=>k_is)
  (case a10=>k_is);(case l10=>k_is);(case c10=>k_is);(case k10=>k_is)
  (case a11=>k_is);(case l11=>k_is);(case c11=>k_is);(case k11=>k_is)
  (case a12=>k_is);(case l12=>k_is);(case c12=>k_is);(case k12=>k_is)
  (case a13=>k_is);(case l13=>k_is);(case c13=>k_is);(case k13=>k_is)
  (case a14=>k_is);(case l14=>k_is);(case c14=>k_is);(case k14=>k_is)
  (case a15=>k_is);(case l15=>k_is);(case c15=>k_is);(case k15=>k_is)
  (case a16=>k_is);(case l16=>k_is);(case c16=>k_is);(case k16=>k_is)
  (case a17=>k_is);(case l17=>k_is);(case c17=>k_is);(case k17=>k_is)
  (case a18=>k_is);(case l18=>k_is);(case c18=>k_is);(case k18=>k_is)
  (case a19=>k_is);(case l19=>k_is);(case c19=>k_is);(case k19=>k_is)
  (case a20=>k_is);(case l20=>k_is);(case c20=>k_is);(case k20=>k_is)
  (case a21=>k_is);(case l21=>k_is);(case c21=>k_is);(case k21=>k_is)
  (case a22=>k_is);(case l22=>k_is);(case c22=>k_is);(case k22=>k_is)
  (case a23=>k_is);(case l23=>k_is);(case c23=>k_is);(case k23=>k_is)
  (case a24=>k_is);(case l24=>k_is);(case c24=>k_is);(case k24=>k_is)
  (case a25=>k_is);(case l25=>k_is);(case c25=>k_is);(case k25=>k_is)
  (case a26=>k_is);(case l26=>k_is);(case c26=>k_is);(case k26=>k_is)
  (case a27=>k_is);(case l27=>k_is);(case c27=>k_is);(case k27=>k_is)
  (case a28=>k_is);(case l28=>k_is);(case c28=>k_is);(case k28=>k_is)
  (case a29=>k_is);(case l29=>k_is);(case c29=>k_is);(case k29=>k_is)
  (case a30=>k_is);(case l30=>k_is);(case c30=>k_is);(case k30=>k_is)
  (case a31=>k_is);(case l31=>k_is);(case c31=>k_is);(case k31=>k_is)
  (case a32=>k_is);(case l32=>k_is);(case c32=>k_is);(case k32=>k_is)
  (case a33=>k_is);(case l33=>k_is);(case c33=>k_is);(case k33=>k_is)
  (case a34=>k_is);(case l34=>k_is);(case c34=>k_is);(case k34=>k_is)
  (case a35=>k_is);(case l35=>k_is);(case c35=>k_is);(case k35=>k_is)
  (case a36=>k_is);(case l36=>k_is);(case c36=>k_is);(case k36=>k_is)
  (case a37=>k_is);(case l37=>k_is);(case c37=>k_is);(case k37=>k_is)
  (case a38=>k_is);(case l38=>k_is);(case c38=>k_is);(case k38=>k_is)
  (case a39=>k_is);(case l39=>k_is);(case c39=>k_is);(case k39=>k_is)
  (case a40=>k_is);(case l40=>k_is);(case c40=>k_is);(case k40=>k_is)
  (case a41=>k_is);(case l41=>k_is);(case c41=>k_is);(case k41=>k_is)
  (case a42=>k_is);(case l42=>k_is);(case c42=>k_is);(case k42=>k_is)
  (case a43=>k_is);(case l43=>k_is);(case c43=>k_is);(case k43=>k_is)
  (case a44=>k_is);(case l44=>k_is);(case c44=>k_is);(case k44=>k_is)
  (case a45=>k_is);(case l45=>k_is);(case c45=>k_is);(case k45=>k_is)
  (case a46=>k_is);(case l46=>k_is);(case c46=>k_is);(case k46=>k_is)
  (case a47=>k_is);(case l47=>k_is);(case c47=>k_is);(case k47=>k_is)
  (case a48=>k_is);(case l48=>k_is);(case c48=>k_is);(case k48=>k_is)
  (case a49=>k_is);(case l49=>k_is);(case c49=>k_is);(case k49=>k_is)
  (case a50=>k_is);(case l50=>k_is);(case c50=>k_is);(case k50=>k_is)
  (case a51=>k_is);(case l51=>k_is);(case c51=>k_is);(case k51=>k_is)
  (case a52=>k_is);(case l52=>k_is);(case c52=>k_is);(case k52=>k_is)
  (case z_len=>k_is)
  (case z_range=>k_is)
  (case z_all=>k_is)
  (case z_any=>k_is)
  (case z_abs=>k_is)
  (case z_int=>k_is)
  (case z_bool=>k_is)
  (case z_str=>k_is)
  (case z_list=>k_is)
  (case z_tuple=>k_is)
  (case z_dict=>k_is)
  (case z_isinstance=>k_is)
  (case z_enumerate=>k_is)
  (case z_reversed=>k_is)
  (case z_sorted=>k_is)
  (case z_max=>k_is)
  (case z_min=>k_is)
  (case z_sum=>k_is)
  (case z_zip=>k_is)
